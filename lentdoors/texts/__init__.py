"""Texts of nets, talks, sorts, tables and grids."""

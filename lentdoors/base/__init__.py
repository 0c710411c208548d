"""Kinds of boxes, and nets."""

"""Lentdoors: who can come to hear whom through boxes that lend doors."""

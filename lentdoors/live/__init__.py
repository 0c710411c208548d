"""Boxes and nets at work."""

"""Chains of boxes: what the boxes between a host and one of its areas ask together."""

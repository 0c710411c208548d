"""What can be known of a net: sorts of doors, tables, and who can come to hear whom."""

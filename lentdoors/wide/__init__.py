"""What holds in whole nets: relations, maps, openings, helps, choices."""

"""A desk, on which nets and talks are worked out by commands."""

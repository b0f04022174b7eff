"""Books and cutters, written and read."""

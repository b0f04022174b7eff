"""Cuts of texts, and the cutters that make them."""

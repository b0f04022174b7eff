"""Pairs of texts and of cutters: races, and edits."""

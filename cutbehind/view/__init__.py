"""Pieces that are safe, whatever follows."""

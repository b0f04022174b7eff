"""Menus of further pieces."""

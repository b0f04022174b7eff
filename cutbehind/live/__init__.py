"""Texts that are read and edited while they are cut."""

"""Cutbehind: hurried cutters beside the cheapest cut, decided for all texts."""

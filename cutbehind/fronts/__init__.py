"""Fronts, which tell all that matters for the least price of what follows."""

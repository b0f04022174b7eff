"""How far a cutter falls behind, by amount and by fraction."""

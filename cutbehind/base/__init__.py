"""Signs, texts and pieces; books, and books compared."""

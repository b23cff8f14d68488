"""Records made into tables, weights by margins, hidden counts."""

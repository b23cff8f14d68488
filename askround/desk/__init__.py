"""Books as texts, and what is said at a desk."""

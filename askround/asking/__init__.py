"""Ways to ask a form."""

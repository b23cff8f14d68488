"""Entries, and what a book of them says of a form."""

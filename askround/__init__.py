"""Askround: forms of questions, asked and made into tables."""

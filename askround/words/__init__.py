"""Names, kinds, values and conditions."""

"""A keeper of a painting: deeds done, taken back, done again."""

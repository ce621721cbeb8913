"""Paintings led to one another by deeds that keep lines."""

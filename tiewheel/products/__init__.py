"""Permutations that are gone along ways, and products along strands and lines."""

"""Crossed posts by a painting and a mating, and the clusters of strands."""

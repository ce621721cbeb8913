"""Webs beside one another, sewn and opened at their ends; what becomes of strands and lines."""

"""Texts written and read, and a desk that answers lines."""

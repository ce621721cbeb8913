"""Tracks of lines, deeds that keep them, and their heirs."""

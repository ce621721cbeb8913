"""The lines of a painting: rings and ties."""

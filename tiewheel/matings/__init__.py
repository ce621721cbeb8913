"""Matings of a web's hands, and the strands that they make."""

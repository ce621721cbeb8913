"""Paintings of a web: judged, found, counted and told by number."""

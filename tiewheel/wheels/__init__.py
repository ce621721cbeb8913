"""Wheels: webs with two matings of short strands, and what comes of turns by both in turn."""

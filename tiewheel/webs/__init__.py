"""Webs: posts, hands, ways, ends, and the parts of a web."""

"""Tiewheel: painted webs whose lines are kept."""

"""Shadowruns: an abstract interpreter that follows all runs of a program at once."""

"""Clockhouse: a house without end, what waits in it, and clocks of fewest hands."""

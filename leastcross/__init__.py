"""Leastcross: the fewest crossings of a drawn web."""

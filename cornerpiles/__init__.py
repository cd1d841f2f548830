"""Cornerpiles: cubes piled in the corner of a box."""

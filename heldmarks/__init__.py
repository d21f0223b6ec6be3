"""Heldmarks: the parts of a group of turns, and what they hold still."""

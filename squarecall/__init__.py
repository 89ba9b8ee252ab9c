"""Squarecall: a caller's language, and the floor that dances it."""

"""Bases: what is left of events that were let go."""

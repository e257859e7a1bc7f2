"""Partmeet: sites that write alone, and forget what all have seen."""

"""The twin of a world: what its sites should answer, by all events that were ever written."""

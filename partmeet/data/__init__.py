"""Keys, values, vectors and events."""

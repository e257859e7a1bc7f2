"""The world: stations, mail, and what happens to them."""

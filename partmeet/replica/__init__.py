"""Sites: what they write, hear, forget and hand."""

"""Data as rows of octets, and back."""

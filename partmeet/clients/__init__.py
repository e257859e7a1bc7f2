"""Clients, and what they have seen."""

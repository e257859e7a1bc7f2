"""What events mean, looked at all at once."""

"""What a site knows of the others."""

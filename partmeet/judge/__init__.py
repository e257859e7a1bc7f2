"""Whether events can have been written as the document tells."""

"""Books of words, and what they do with texts."""

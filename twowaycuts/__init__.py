"""Two-way cuts: books of words that are read from both ends."""

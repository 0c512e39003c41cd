"""The lengths that the words of a book can have."""

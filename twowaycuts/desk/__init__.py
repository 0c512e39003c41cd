"""A text that comes in from both ends."""

"""Texts with wrong or lost letters, texts of values, and the shell."""

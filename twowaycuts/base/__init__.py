"""Integers, letters, texts and words."""

"""Plans of full books, and what becomes of them."""

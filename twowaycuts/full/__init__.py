"""Full books: their degrees, inner texts, and what can be made of them."""

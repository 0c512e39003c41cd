"""Mirror rows, words in them, turnings and webs."""

"""Lines between columns and rows, and what crosses them."""

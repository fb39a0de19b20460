"""Rule books, and what becomes of a task by them."""

"""A desk that keeps books and processors."""

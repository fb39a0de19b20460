"""What changes of a book change."""

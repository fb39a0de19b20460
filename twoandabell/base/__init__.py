"""The words and numbers that everything else is made of."""

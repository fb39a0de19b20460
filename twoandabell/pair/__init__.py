"""Two tasks among any number of others."""

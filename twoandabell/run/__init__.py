"""Queues, and loads that are done by a book."""

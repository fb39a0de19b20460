"""Texts, and how they are read."""

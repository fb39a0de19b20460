"""How long tasks wait."""

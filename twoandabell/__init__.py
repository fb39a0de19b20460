"""Rule books of a scheduler, decided for any number of tasks."""

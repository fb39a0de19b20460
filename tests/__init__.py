"""The tests of twoandabell."""

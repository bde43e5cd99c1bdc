"""The tests of costpapers."""

"""Costpapers: linear tasks with the papers of both sides."""

"""Waterbyturns: keeping plots watered by turns whatever the weather does."""

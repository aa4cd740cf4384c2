"""Rows of whole numbers made trim, and the shortest row that they make."""

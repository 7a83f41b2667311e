"""Stairs and chains of points."""

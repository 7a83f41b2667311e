"""Heaps of points: how they are written and read, and which lies below which."""

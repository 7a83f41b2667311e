"""Counts of what lies below and above."""

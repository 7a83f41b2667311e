"""Belowpoints: who lies below whom among points."""

"""Marksteps: rows listed so that each differs from the next by one change."""

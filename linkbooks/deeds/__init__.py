"""Deeds: puts, melds and takes, on rows."""

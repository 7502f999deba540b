"""Readers: which rows are right."""

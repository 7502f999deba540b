"""Texts of what there is, and a shell that answers lines of text."""

"""Right rows counted by their keys."""

"""Books: pages, machines, and what they are kept in."""

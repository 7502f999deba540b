"""Trees and heaps with keys."""

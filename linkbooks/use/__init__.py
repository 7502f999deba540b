"""A bench: a book that is worked on."""

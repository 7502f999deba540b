"""What books are made of: words, kinds and ranks."""

"""Linkbooks: schemes of heaps, each decided for all heaps."""

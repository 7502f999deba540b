"""What is decided for all heaps: tables, papers, links, plans, uses."""

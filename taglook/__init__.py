"""Taglook: words looked up through lines of elders, kept by tags."""

"""Heldbest: desks and seekers that at every moment hold a best assignment."""

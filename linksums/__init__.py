"""Linksums: running totals kept by two tables of links."""

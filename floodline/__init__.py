"""Floodline: switches that learn where hosts are."""

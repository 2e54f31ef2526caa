"""Hopkeep: rows of caches between readers and an origin."""

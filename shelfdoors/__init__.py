"""Shelfdoors: chains of first-in-first-out caches with several entries."""

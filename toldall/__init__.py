"""Toldall: what parties know who tell one another all when they meet."""

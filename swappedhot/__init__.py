"""Swappedhot: replacing modules of a running program."""

"""Slowshelves: webs laid on a slow disk."""

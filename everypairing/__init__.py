"""Webs, and what all their pairings have in common."""

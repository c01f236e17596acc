"""Bestoflast: the last results in their order."""

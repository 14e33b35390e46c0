"""Mintlaw: what the recipes of a world can make, and what they cannot."""

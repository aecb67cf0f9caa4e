"""Notring: rules with not, also in rings."""

"""Heldwhen: what held when, and when it was known."""

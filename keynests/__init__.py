"""Keynests: keys that have two homes, or three, and lie in one of them."""

"""Jointhands: what people can find out together, and no more."""

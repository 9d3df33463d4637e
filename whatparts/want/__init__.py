"""Wishes, and parts that keep them."""

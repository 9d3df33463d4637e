"""Texts of the values of the package."""

"""Whatparts: what a missing part must do, so that the whole keeps its wish."""

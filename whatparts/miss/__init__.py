"""The missing part: the wish on it, parts that keep it, and wishes compared."""

"""Joints, and the wholes that they build of parts."""

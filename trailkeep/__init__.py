"""Trailkeep: files in a trail that is swept, and cut anywhere."""

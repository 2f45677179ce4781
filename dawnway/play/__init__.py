"""Courses, ways and the plays that they make."""

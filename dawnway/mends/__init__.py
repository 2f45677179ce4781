"""Mends: the cheapest promises to take back, and how much longer works can become."""

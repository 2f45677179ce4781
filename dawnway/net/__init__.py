"""Nets of events, works and bounds, and the ticks that they let."""

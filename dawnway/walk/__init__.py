"""Walks of closed tables, and courses against ways that have none."""

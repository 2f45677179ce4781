"""Rows, the rules that make them, lists and closed tables."""

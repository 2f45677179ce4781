"""Texts of nets, lists, tables and beginnings, and a shell that takes commands."""

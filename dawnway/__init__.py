"""Dawnway: a day of works whose lengths are seen only when they end."""

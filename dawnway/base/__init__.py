"""Names, ticks and what is seen."""

"""The live day: what is sure or lost behind what has come, and days that are put together from halves."""

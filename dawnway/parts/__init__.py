"""Parts of a day: what is told ahead, places, hands, bags and lanes."""

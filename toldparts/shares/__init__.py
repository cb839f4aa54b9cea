"""What rows have on average, and how likely they are."""

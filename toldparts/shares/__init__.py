"""What rows have on average."""

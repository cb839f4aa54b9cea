"""How many rows there are."""

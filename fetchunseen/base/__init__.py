"""Numbers below the rest: letters of a prime, and rows of them."""

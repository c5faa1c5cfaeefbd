"""Libraries of books, and the rows that ask for their letters."""

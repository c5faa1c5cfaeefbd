"""Fetchunseen: a book is fetched, and nobody learns which."""

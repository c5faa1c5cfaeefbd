"""Schemes that need no more letters than must come."""

"""Texts of libraries, lots and schemes."""

"""Lots of houses, and weights and covers of them."""

"""Schemes by which the reader learns nothing of other books."""

"""How few letters can come, and the chain of ranks that shows it."""

"""Schemes: which sums the houses are asked, what these tell, and who sees what."""

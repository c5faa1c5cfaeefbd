"""A desk that fetches books from houses."""

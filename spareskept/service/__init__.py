"""A service that answers from a kernel of its archive."""

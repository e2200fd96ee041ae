"""Choice tables and their orderings."""

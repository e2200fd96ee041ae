"""What bounded deletions can do to a selection."""

"""What orders, margins, hulls and forests select."""

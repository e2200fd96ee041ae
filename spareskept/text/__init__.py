"""Text forms, and a shell that reads them."""

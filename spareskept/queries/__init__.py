"""Queries and what they select."""

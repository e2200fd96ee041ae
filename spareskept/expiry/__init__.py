"""Rows that expire."""

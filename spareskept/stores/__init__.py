"""Stores of the rows that must be kept."""

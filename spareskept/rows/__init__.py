"""Rows, rowsets, orders and conditions."""

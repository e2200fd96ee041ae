"""Certificates of depth."""

"""Replicas that exchange what they know."""

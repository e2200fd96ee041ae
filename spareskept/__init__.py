"""Spareskept: which rows must be kept so that bounded deletions never change an answer."""

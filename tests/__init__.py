"""Tests of spareskept."""

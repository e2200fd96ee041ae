"""Depths of rows, and the kernels that follow from them."""

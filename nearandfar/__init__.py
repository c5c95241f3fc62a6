"""Nearandfar: what a table of distances tells."""

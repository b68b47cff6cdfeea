"""Rows sorted by one key of two coordinates, judged at all levels and places."""

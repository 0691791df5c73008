"""Texts of floors and plans."""

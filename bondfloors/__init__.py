"""Floors of bars that no line goes through."""

"""Sizes with promises."""

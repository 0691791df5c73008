"""Floors that come from other floors."""

"""All floors of a size."""

"""What changes, and can be taken back."""

"""What sizes have, told without a floor."""

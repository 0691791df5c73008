"""Plans: a few blocks that tell a floor."""

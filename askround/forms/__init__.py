"""Forms as trees of steps and as texts."""

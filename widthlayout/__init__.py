"""Documents laid out within a width."""

"""Rules of how many rows an owner has, kept or broken by handlers that run at once."""

"""everrow: one order of all that was ever typed, in which any set of deeds with all they rest on is a state."""

"""Tables of how many paintings have which ties, and paintings near one another."""

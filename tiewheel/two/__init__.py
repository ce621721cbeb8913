"""Two paintings of a web: what is unlike, and the flips that lead from one to the other."""

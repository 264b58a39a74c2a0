"""How many faces simplicial polytopes have, in exact fractions."""

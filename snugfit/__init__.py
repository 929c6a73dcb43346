"""Snugfit: convex shapes laid into one another, reckoned with whole numbers and fractions."""

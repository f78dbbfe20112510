"""Books in which nothing is erased."""

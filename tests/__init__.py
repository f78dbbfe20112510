"""The tests of contrabooks."""

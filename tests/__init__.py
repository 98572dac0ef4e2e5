"""The tests of wheelsky."""

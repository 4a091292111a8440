"""The tests of the package grownlines."""

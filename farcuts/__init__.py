"""Farcuts: distances as sums of cuts."""

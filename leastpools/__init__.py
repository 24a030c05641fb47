"""Leastpools: sizes of pools inside one another with which nothing can ever get stuck."""

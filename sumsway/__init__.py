"""Sumsway: sums over the things of an order, turned about."""

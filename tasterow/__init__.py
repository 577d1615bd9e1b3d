"""Tasterow: seat tasters in a row so that every two dishes swap at most once."""

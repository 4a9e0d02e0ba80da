"""Shownempty: acts of close conjuring, and what no guest, eye, slip or challenge can give away."""

"""Rimohms: nets of resistors in a disc, seen from the rim."""

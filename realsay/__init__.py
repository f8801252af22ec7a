"""Realsay: some and all over the numbers, reckoned with whole numbers alone."""

"""Finest step: exact answers for sums of cells with bounds and prices."""

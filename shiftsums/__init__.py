"""Shiftsums: times a number by shifts and sums alone."""

"""Sumslips: slips in sums of any length, and the checks that see them."""

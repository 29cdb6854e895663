"""Onefacers: facers that meet the same one, whoever works, wherever, however late."""

"""Farshells: how many places of a grid that goes on for ever stand so far away."""

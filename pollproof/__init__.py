"""Pollproof: a counting house whose outcomes show themselves."""

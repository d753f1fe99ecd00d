"""Rings of beads of two kinds, told by stretches however great."""

"""Masked houses, painted as they come: maps, trees, comings and wits who paint."""

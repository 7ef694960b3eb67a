"""Surveyed surfaces: see surveyed.surfaces.answers."""

"""Deepspot: how deep a spot lies among points of the plane."""

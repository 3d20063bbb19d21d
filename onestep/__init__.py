"""Onestep: lists of all there are, in which each next one is one small step away."""

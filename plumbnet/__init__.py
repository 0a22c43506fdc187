"""Plumbnet: the heights of a survey, adjusted exactly."""

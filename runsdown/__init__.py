"""Runsdown: loops that run, in cloths of every size."""

"""Coveredcells: no lock with fewer cells than threads."""

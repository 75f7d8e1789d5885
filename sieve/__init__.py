"""Sieve: which parcels a gate lets by, and how their answers come back."""

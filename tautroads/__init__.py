"""Tautroads: roads of any length, and how far each may fall and rise."""

"""Steplinks: what links vouch for."""

"""Breakerrow: circuit breakers in a row."""

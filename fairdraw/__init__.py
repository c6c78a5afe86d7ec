"""Fairdraw: exact shares of what is drawn."""

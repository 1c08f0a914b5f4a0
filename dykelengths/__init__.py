"""Dykelengths: a dyke kept by houses by lengths."""

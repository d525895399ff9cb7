"""Diagrams: circles broken, and ranks."""

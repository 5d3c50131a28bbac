"""Handwatch: a watch of three buttons."""

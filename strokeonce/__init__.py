"""Drawings that grow by rules, and whether a stroke is ever drawn twice."""

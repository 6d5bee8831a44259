"""Cutnotes: totals along a hierarchy, kept by notes."""

"""Pushtells: what tightening sum by sum can tell."""

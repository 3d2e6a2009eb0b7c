"""Leastfail: failing inputs made least by delta debugging."""

"""BETTER: the way that leaves fewer numbers."""

from leastfail.cutting import cut_down
from leastfail.halving import halved


def better(trials, parts):
    """That one of HALVED and CUT DOWN that has fewer numbers, of as many the lesser."""
    ends = [halved(trials, parts), cut_down(trials, parts)]
    return min(ends, key=lambda end: (len(end), end))

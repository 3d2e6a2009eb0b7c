"""Small cases: all CONFIGURATIONS of few pieces gone through."""

from leastfail.cases import is_within, together
from leastfail.errors import BadValue
from leastfail.kinds import is_number
from leastfail.trials import want_trials

MOST_SMALL = 10


def all_of(count):
    """All CONFIGURATIONS of so many pieces, by how many numbers they have, then as tuples."""
    found = [()]
    longest = [()]
    for size in range(count):
        longest = [parts + (number,) for parts in longest for number in range(count) if number > max((-1,) + parts)]
        found += longest
    return found


def want_small(trials, count):
    """Refuses what are no TRIALS, and too many pieces to go through."""
    want_trials(trials)
    if not is_number(count, 0, MOST_SMALL):
        raise BadValue("count")


def bottoms(trials, count):
    """All that FAIL while nothing else within them does, the smallest first."""
    want_small(trials, count)
    found = []
    for parts in all_of(count):
        # Whatever FAILS within this one has a BOTTOM within it, which was found before.
        if not any([is_within(bottom, parts) for bottom in found]) and trials.fails(parts):
            found.append(parts)
    return found


def breach(trials, count):
    """The first pair of one that FAILS and one with a number more that doesn't, or None."""
    want_small(trials, count)
    for parts in all_of(count):
        if trials.fails(parts):
            # The greater the number that comes to it, the greater the tuple is.
            for number in range(count):
                more = together(parts, (number,))
                if not trials.fails(more):
                    return parts, more
    return None


def is_monotone(trials, count):
    """Whether the TEST is MONOTONE on so many pieces."""
    return breach(trials, count) is None

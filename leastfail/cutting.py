"""CUT DOWN and QUICK: a failing CONFIGURATION made less from its end on."""

from leastfail.cases import without
from leastfail.trials import want_failing


def cut_down(trials, parts):
    """The LEAST CONFIGURATION that is come to by leaving out one number after another."""
    want_failing(trials, parts)
    before = None
    while parts != before:
        before = parts
        for number in reversed(before):
            less = without(parts, (number,))
            if trials.fails(less):
                parts = less
    return parts


def shortest(trials, ahead, kept):
    """How many of the numbers ahead, from the first on, FAIL with those kept; of a MONOTONE TEST the fewest."""
    # None of them don't FAIL with those kept, and all of them do: both are known by now.
    low = 0
    high = len(ahead)
    while high - low > 1:
        middle = (low + high) // 2
        if trials.fails(ahead[:middle] + kept):
            high = middle
        else:
            low = middle
    return high


def quick(trials, parts):
    """A CONFIGURATION that FAILS, found by few calls; of a MONOTONE TEST the one that CUT DOWN tells."""
    want_failing(trials, parts)
    ahead = parts
    kept = ()
    while ahead and not trials.fails(kept):
        # The last of the shortest row that FAILS can't be left out, so CUT DOWN keeps it, too.
        last = shortest(trials, ahead, kept) - 1
        kept = (ahead[last],) + kept
        ahead = ahead[:last]
    return kept

"""HALVED: a failing CONFIGURATION made LEAST by halves, at once or by and by."""

from leastfail.cases import parted, without
from leastfail.errors import BadValue
from leastfail.kinds import is_number
from leastfail.trials import MOST_HANDED, want_failing


def round_of(parts, many):
    """What is to be ASKED of C PARTED in N, in turn, each with what N is where it FAILS."""
    if len(parts) < 2:
        return []
    rows = parted(parts, many)
    asked = [(row, 2) for row in rows]
    if many > 2:
        asked += [(without(parts, row), many - 1) for row in rows]
    return asked


class Walk:
    """How far the way by halves has come, from a CONFIGURATION of which it is known that it FAILS."""

    def __init__(self, trials, parts):
        self.trials = trials
        self.parts = parts
        self.into = 2
        # Where the empty one doesn't FAIL the first round is right behind it, as behind any that doesn't.
        self.ahead = [((), 2)] + round_of(parts, 2)

    def go_on(self, calls):
        """Goes on until it is over, or so many were CALLED and the next isn't known."""
        if not is_number(calls, 0, MOST_HANDED):
            raise BadValue("calls")
        called = 0
        while self.ahead:
            asked = self.ahead[0][0]
            if self.trials.verdict_of(asked) is None:
                if called == calls:
                    return False
                called += 1
            self.step(self.trials.fails(asked))
        return True

    def step(self, fails):
        """Goes on behind what was ASKED first of all that is ahead."""
        count = len(self.parts)
        if fails:
            self.parts, self.into = self.ahead[0]
            self.ahead = round_of(self.parts, self.into)
        elif len(self.ahead) > 1:
            self.ahead = self.ahead[1:]
        elif self.into < count:
            self.into = min(2 * self.into, count)
            self.ahead = round_of(self.parts, self.into)
        else:
            self.ahead = []

    def twin(self, trials):
        """Another one that has come as far, by TRIALS that know as much."""
        other = Walk(trials, self.parts)
        other.into = self.into
        other.ahead = list(self.ahead)
        return other

    def is_as_far(self, other):
        """Whether another one stands where this one does."""
        return self.parts == other.parts and self.into == other.into and self.ahead == other.ahead


class Halving:
    """The way from a failing CONFIGURATION to a LEAST one, which can be gone by and by."""

    def __init__(self, trials, parts):
        want_failing(trials, parts)
        self.walk = Walk(trials, parts)

    def go(self, *, calls=1):
        """Goes on, so many being CALLED at the most: whether it is over."""
        return self.walk.go_on(calls)

    def is_over(self):
        """Whether what it stands at is what is told in the end."""
        return self.walk.ahead == []

    def stands(self):
        """The CONFIGURATION that it has come to, which FAILS."""
        return self.walk.parts

    def many(self):
        """In how many that one is PARTED."""
        return self.walk.into


def halved(trials, parts):
    """The LEAST CONFIGURATION that the way by halves comes to."""
    halving = Halving(trials, parts)
    # No way has as many calls as that, so it goes to its end at once.
    halving.go(calls=MOST_HANDED)
    return halving.stands()

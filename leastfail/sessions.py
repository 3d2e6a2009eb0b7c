"""SESSIONS: a failing CONFIGURATION made less by DEEDS, which can be taken back and done again."""

from leastfail.cases import full, want_configuration, without
from leastfail.closing import closed_down
from leastfail.errors import Nested, Nothing
from leastfail.halving import Walk
from leastfail.links import closure, want_links
from leastfail.papers import least_paper
from leastfail.trials import MOST_CALLS, Trials, want_verdict


class Log:
    """Which DEEDS were begun, one at a time, and how each of them ended."""

    def __init__(self):
        self.entries = []
        self.begun = 0
        self.busy = False

    def __enter__(self):
        if self.busy:
            raise Nested()
        self.busy = True
        self.begun += 1
        self.entries.append(("begun", self.begun))

    def __exit__(self, kind, value, trace):
        self.busy = False
        if kind is None:
            self.entries.append(("done", self.begun))
        else:
            self.entries.append(("refused", self.begun))

    def twin(self):
        """Another one with the same rows, amid no DEED."""
        other = Log()
        other.entries = list(self.entries)
        other.begun = self.begun
        return other


class Session:
    """A failing CONFIGURATION, what is done to it, and what was done."""

    def __init__(self, test, count, *, most=MOST_CALLS):
        self.whole = full(count)
        trials = Trials(test, most=most)
        want_verdict(trials, self.whole, "fail")
        # How far the HALVING is, by which TRIALS: that is all that a DEED changes, and none of these is changed itself.
        self.walk = Walk(trials, self.whole)
        self.past = []
        self.undone = []
        self.journal = Log()

    def take(self, walk):
        """All stands there from now on, and what was taken back can't be done again."""
        self.past.append(self.walk)
        self.undone = []
        self.walk = walk

    def take_parts(self, parts):
        """C is this one, which FAILS; where it was so all stays."""
        if parts != self.walk.parts:
            self.take(Walk(self.walk.trials, parts))

    def halve(self, *, calls=1):
        """The HALVING goes on: whether it is over."""
        with self.journal:
            walk = self.walk.twin(self.walk.trials)
            over = walk.go_on(calls)
            if not walk.is_as_far(self.walk):
                self.take(walk)
            return over

    def drop(self, parts):
        """C without these numbers is C, if it FAILS: whether it does."""
        with self.journal:
            want_configuration(parts, "parts", len(self.whole))
            less = without(self.walk.parts, parts)
            fails = self.walk.trials.fails(less)
            if fails:
                self.take_parts(less)
            return fails

    def close(self, links):
        """C is CLOSED DOWN by LINKS, from its CLOSURE."""
        with self.journal:
            want_links(links, len(self.whole))
            parts = closed_down(self.walk.trials, links, closure(links, self.walk.parts))
            self.take_parts(parts)
            return parts

    def known_without(self, changed):
        """What is known of all that has none of the numbers that are changed, of nothing where None are told."""
        if changed is None:
            return []
        return [row for row in self.known_rows() if without(row[0], changed) == row[0]]

    def retell(self, test, *, changed=None):
        """The TEST is another one: C, if it FAILS by that, else FULL."""
        with self.journal:
            if changed is not None:
                want_configuration(changed, "changed", len(self.whole))
            trials = Trials(test, most=self.walk.trials.most, known=self.known_without(changed))
            parts = self.walk.parts if trials.fails(self.walk.parts) else self.whole
            want_verdict(trials, parts, "fail")
            self.take(Walk(trials, parts))
            return parts

    def back(self):
        """The last DEED that changed something is taken back: C."""
        with self.journal:
            if not self.past:
                raise Nothing("back")
            self.undone.append(self.walk)
            self.walk = self.past.pop()
            return self.walk.parts

    def again(self):
        """The DEED that was taken back last is done again, as it came out: C."""
        with self.journal:
            if not self.undone:
                raise Nothing("again")
            self.past.append(self.walk)
            self.walk = self.undone.pop()
            return self.walk.parts

    def stands(self):
        """C."""
        return self.walk.parts

    def size(self):
        """COUNT."""
        return len(self.whole)

    def rows(self):
        """The ROWS of its TRIALS."""
        return self.walk.trials.rows()

    def known_rows(self):
        """All that its TRIALS know."""
        return self.walk.trials.known_rows()

    def left(self):
        """How many may be CALLED still."""
        return self.walk.trials.left()

    def is_over(self):
        """Whether its HALVING is over."""
        return self.walk.ahead == []

    def log(self):
        """The LOG."""
        return list(self.journal.entries)

    def is_busy(self):
        """Whether a DEED is being done."""
        return self.journal.busy

    def many(self):
        """How many DEEDS could be taken back."""
        return len(self.past)

    def paper(self):
        """The PAPER of C, if it is LEAST, or None."""
        return least_paper(self.walk.trials, self.walk.parts)

    def copy(self):
        """Another one that stands likewise and goes on by itself."""
        # The TEST isn't CALLED for it, so it is made by one that FAILS of all.
        other = Session(lambda parts: "fail", len(self.whole))
        twins = {}
        for walk in self.past + [self.walk] + self.undone:
            if walk.trials not in twins:
                twins[walk.trials] = walk.trials.twin()
        other.walk = self.walk.twin(twins[self.walk.trials])
        other.past = [walk.twin(twins[walk.trials]) for walk in self.past]
        other.undone = [walk.twin(twins[walk.trials]) for walk in self.undone]
        other.journal = self.journal.twin()
        return other

    def alike(self):
        """All that makes two of them the same."""
        return self.whole, self.walk.parts, self.known_rows(), self.log()

    def __eq__(self, other):
        return isinstance(other, Session) and self.alike() == other.alike()

    def __len__(self):
        return len(self.walk.trials)

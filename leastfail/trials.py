"""TRIALS: what a TEST told, kept, counted and bounded."""

from leastfail.cases import is_configuration, want_configuration
from leastfail.errors import BadValue, BadVerdict, Nested, NotSo, Spent
from leastfail.kinds import is_number

MOST_CALLS = 20000
MOST_HANDED = 1000000
VERDICTS = ("fail", "pass", "unresolved")


def is_verdict(thing):
    """Whether anything is a VERDICT."""
    return isinstance(thing, str) and thing in VERDICTS


def is_row(thing):
    """Whether anything is a ROW."""
    if not isinstance(thing, tuple) or len(thing) != 2:
        return False
    return is_configuration(thing[0]) and is_verdict(thing[1])


def are_rows(thing, is_one):
    """Whether anything is a list or a tuple of such rows as are told, none of them of one thing twice."""
    if not isinstance(thing, (list, tuple)):
        return False
    seen = set()
    for row in thing:
        if not is_one(row) or row[0] in seen:
            return False
        seen.add(row[0])
    return True


def known_by(rows, is_one):
    """The VERDICTS that such rows as are told tell, by what they are of."""
    if not are_rows(rows, is_one):
        raise BadValue("rows")
    return {asked: verdict for asked, verdict in rows}


class Answers:
    """What is known of a TEST, whatever it is CALLED with, and how often it may be CALLED."""

    def __init__(self, test, most, known, is_one):
        if not is_number(most, 0, MOST_HANDED):
            raise BadValue("most")
        if not are_rows(known, is_one):
            raise BadValue("known")
        self.test = test
        self.most = most
        self.verdicts = {asked: verdict for asked, verdict in known}
        self.called = []
        self.calling = False

    def answer(self, asked):
        """The VERDICT of a thing of the right kind, CALLED if it isn't known."""
        if self.calling:
            raise Nested()
        if asked in self.verdicts:
            return self.verdicts[asked]
        if len(self.called) >= self.most:
            raise Spent(self.most)
        verdict = self.call_test(asked)
        self.verdicts[asked] = verdict
        self.called.append((asked, verdict))
        return verdict

    def call_test(self, asked):
        """What the TEST tells; whatever it raises goes on, but the call is over then, too."""
        test = self.test
        self.calling = True
        try:
            told = test(asked)
        finally:
            self.calling = False
        if not is_verdict(told):
            raise BadVerdict(told)
        return told

    def raise_most(self, more):
        """Makes MOST so much greater."""
        if not is_number(more, 0, MOST_HANDED):
            raise BadValue("more")
        self.most += more


class Trials(Answers):
    """What is known of a TEST of CONFIGURATIONS, and how often it may be CALLED."""

    def __init__(self, test, *, most=MOST_CALLS, known=()):
        Answers.__init__(self, test, most, known, is_row)

    def ask(self, parts):
        """The VERDICT of a CONFIGURATION, CALLED if it isn't known."""
        want_configuration(parts, "parts")
        return self.answer(parts)

    def fails(self, parts):
        """Whether a CONFIGURATION FAILS."""
        return self.ask(parts) == "fail"

    def rows(self):
        """All ROWS, in the order in which they were CALLED."""
        return list(self.called)

    def verdict_of(self, parts):
        """What is known of a CONFIGURATION, or None."""
        want_configuration(parts, "parts")
        return self.verdicts.get(parts)

    def known_rows(self):
        """All that is known, rising by CONFIGURATION."""
        return sorted(self.verdicts.items())

    def is_calling(self):
        """Whether the TEST is being CALLED."""
        return self.calling

    def allow(self, more):
        """Lets so many more be CALLED."""
        self.raise_most(more)

    def left(self):
        """How many may be CALLED still."""
        return self.most - len(self.called)

    def same_test(self):
        """Other TRIALS of the very TEST that know what is known here."""
        other = Trials(self.test, known=self.known_rows())
        # What was allowed may have made MOST greater than what can be handed in.
        other.most = self.most
        return other

    def twin(self):
        """Other TRIALS of the very TEST that stand as these do, ROWS, too."""
        other = self.same_test()
        other.called = self.rows()
        return other

    def __len__(self):
        return len(self.called)


def want_trials(thing):
    """Refuses what are no TRIALS."""
    if not isinstance(thing, Trials):
        raise BadValue("trials")


def want_verdict(trials, parts, wanted):
    """Refuses a CONFIGURATION that, ASKED, is another VERDICT than the wanted one."""
    verdict = trials.ask(parts)
    if verdict != wanted:
        raise NotSo(parts, verdict)


def want_failing(trials, parts):
    """Refuses what a reducer can't begin from: no TRIALS, no CONFIGURATION, or one that doesn't FAIL."""
    want_trials(trials)
    want_configuration(parts, "parts")
    want_verdict(trials, parts, "fail")

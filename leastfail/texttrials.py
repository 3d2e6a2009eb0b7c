"""TEXT TRIALS: TRIALS of a TEST that is called with texts."""

from leastfail.errors import BadValue
from leastfail.kinds import is_tuple_of
from leastfail.trials import MOST_CALLS, Answers, is_verdict


def is_text_row(thing):
    """Whether anything is a row (TEXT, VERDICT)."""
    return is_tuple_of(thing, 2) and isinstance(thing[0], str) and is_verdict(thing[1])


def want_text(thing):
    """Refuses what is no text."""
    if not isinstance(thing, str):
        raise BadValue("text")


class TextTrials(Answers):
    """What is known of a TEST of texts, and how often it may be CALLED."""

    def __init__(self, test, *, most=MOST_CALLS, known=()):
        Answers.__init__(self, test, most, known, is_text_row)

    def ask(self, text):
        """The VERDICT of a text, CALLED if it isn't known."""
        want_text(text)
        return self.answer(text)

    def fails(self, text):
        """Whether a text FAILS."""
        return self.ask(text) == "fail"

    def rows(self):
        """All rows, in the order in which they were CALLED."""
        return list(self.called)

    def verdict_of(self, text):
        """What is known of a text, or None."""
        want_text(text)
        return self.verdicts.get(text)

    def known_rows(self):
        """All that is known, rising by text."""
        return sorted(self.verdicts.items())

    def is_calling(self):
        """Whether the TEST is being CALLED."""
        return self.calling

    def allow(self, more):
        """Lets so many more be CALLED."""
        self.raise_most(more)

    def left(self):
        """How many may be CALLED still."""
        return self.most - len(self.called)

    def same_test(self):
        """Other ones of the very TEST that know what is known here."""
        other = TextTrials(self.test, known=self.known_rows())
        # What was allowed may have made MOST greater than what can be handed in.
        other.most = self.most
        return other

    def __len__(self):
        return len(self.called)

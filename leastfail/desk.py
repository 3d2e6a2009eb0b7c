"""A desk, which answers lines."""

from leastfail.cases import Case, cut, is_configuration
from leastfail.errors import BadRow, BadToken, BadValue, NoEnd, NotSo, Nothing, Spent
from leastfail.grammars import Grammar
from leastfail.kinds import is_numeral
from leastfail.links import links_of
from leastfail.pruning import pruned
from leastfail.rules import teller, text_teller
from leastfail.sessions import Session
from leastfail.texttrials import TextTrials
from leastfail.trees import read_tree, text_of
from leastfail.trials import MOST_HANDED

NO_LINE = "no line"
# What stands behind the first blank of these is taken as it is.
TAKING = ("case", "teller", "grammar", "retell", "prune")
# These want a SESSION, and nothing stands behind them.
ALONE = ("close", "back", "again", "text", "calls")
MOST_FIGURES = 7


def numbers_in(words):
    """The numbers that words are, or None where one is none."""
    if not all([is_numeral(word, MOST_FIGURES) for word in words]):
        return None
    return tuple([int(word) for word in words])


class Desk:
    """A CASE, a TELLER, perhaps a GRAMMAR and a SESSION, and what lines do with them."""

    def __init__(self):
        self.case = Case([])
        self.rule = "has x"
        self.grammar = None
        self.session = None

    def say(self, line):
        """The answer to a line, of anything."""
        try:
            return self.answered(line)
        except BadRow as bad_row:
            return f"bad row {bad_row.row} {bad_row.word}"
        except NoEnd as no_end:
            return f"no end {no_end.name}"
        except BadToken as bad_token:
            return f"bad token {bad_token.place}"
        except NotSo:
            return "not so"
        except Spent:
            return "spent"
        except Nothing:
            return "nothing"

    def answered(self, line):
        """The answer to a line, where it isn't refused by what is asked for it."""
        if not isinstance(line, str) or "\n" in line:
            return NO_LINE
        word, blank, rest = line.partition(" ")
        if word in TAKING:
            return self.taken(word, rest) if blank else NO_LINE
        numbers = numbers_in(line.split(" ")[1:])
        if numbers is None:
            return NO_LINE
        if line == "begin":
            self.session = Session(teller(self.case, self.rule), len(self.case))
            return "done"
        if line == "least" and self.grammar is not None:
            return text_of(self.grammar.least_tree())
        return self.of_session(word, numbers)

    def taken(self, word, rest):
        """The answer to a line that takes all that stands behind its first blank."""
        if word == "case":
            return self.cut_case(rest)
        if word == "retell":
            return self.retold(rest)
        if word == "prune":
            return self.pruned_text(rest)
        if word == "teller":
            # Refused here, if it is none.
            text_teller(rest)
            self.rule = rest
        else:
            self.grammar = Grammar(rest.replace(" ; ", "\n"))
        self.session = None
        return "done"

    def cut_case(self, text):
        """The CASE is CUT from a text by words."""
        try:
            self.case = cut(text, by="words")
        except BadValue:
            return "bad case"
        self.session = None
        return "done"

    def retold(self, text):
        """The SESSION's TEST is another TELLER, which is the desk's, too."""
        if self.session is None:
            return NO_LINE
        self.session.retell(teller(self.case, text))
        self.rule = text
        return self.standing()

    def pruned_text(self, text):
        """The TEXT of what a text, READ, is PRUNED to."""
        if self.grammar is None:
            return NO_LINE
        tree = read_tree(self.grammar, text)
        return text_of(pruned(TextTrials(text_teller(self.rule)), self.grammar, tree))

    def of_session(self, word, numbers):
        """The answer to a line that wants a SESSION."""
        if self.session is None or not self.is_right(word, numbers):
            return NO_LINE
        if word == "text":
            return self.case.joined(self.session.stands())
        if word == "calls":
            return str(len(self.session))
        self.do_deed(word, numbers)
        return self.standing()

    def is_right(self, word, numbers):
        """Whether just such numbers may stand behind a word."""
        if word == "halve":
            return len(numbers) == 1 and numbers[0] <= MOST_HANDED
        if word == "drop":
            return is_configuration(numbers, len(self.case))
        return word in ALONE and numbers == ()

    def do_deed(self, word, numbers):
        """A DEED of the SESSION."""
        if word == "halve":
            self.session.halve(calls=numbers[0])
        elif word == "drop":
            self.session.drop(numbers)
        elif word == "close":
            self.session.close(links_of(self.case))
        elif word == "back":
            self.session.back()
        else:
            self.session.again()

    def standing(self):
        """What is answered behind a DEED."""
        return " ".join(["done"] + [str(number) for number in self.session.stands()])

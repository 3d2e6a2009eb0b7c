"""The whole interface: its names, arguments, defaults and stars, by places and by names [0]."""

import importlib
import inspect
import unittest
from itertools import permutations

from leastfail.cases import Case, cut
from leastfail.desk import Desk
from leastfail.errors import BadRow, BadToken, BadValue, BadVerdict, Gone, NoEnd, Nothing, NotSo, Spent
from leastfail.grammars import Grammar
from leastfail.halving import Halving
from leastfail.sessions import Session
from leastfail.texttrials import TextTrials
from leastfail.trees import read_tree
from leastfail.trials import Trials

# What each name is called with; of a class, its methods, too.
NAMES = {
    "errors": {
        "BadValue": "(what)", "BadVerdict": "(told)", "Spent": "(most)", "Nested": "()", "Gone": "(why='')",
        "NotSo": "(parts, verdict)", "BadRow": "(row, word)", "BadToken": "(place)", "NoEnd": "(name)",
        "Nothing": "(about)",
    },
    "cases": {
        "is_configuration": "(thing, count=120)", "full": "(count)", "without": "(parts, others)",
        "together": "(parts, others)", "is_within": "(parts, others)", "one_less": "(parts)",
        "parted": "(parts, many)", "Case": "(pieces)", "Case.pieces": "(self)", "Case.joined": "(self, parts=None)",
        "Case.kept": "(self, parts)", "Case.__eq__": "(self, other)", "Case.__len__": "(self)",
        "Case.__str__": "(self)", "Case.__repr__": "(self)", "cut": "(text, *, by='lines')",
    },
    "trials": {
        "is_row": "(thing)", "Trials": "(test, *, most=20000, known=())", "Trials.ask": "(self, parts)",
        "Trials.fails": "(self, parts)", "Trials.rows": "(self)", "Trials.verdict_of": "(self, parts)",
        "Trials.known_rows": "(self)", "Trials.is_calling": "(self)", "Trials.allow": "(self, more)",
        "Trials.left": "(self)", "Trials.same_test": "(self)", "Trials.__len__": "(self)",
    },
    "halving": {
        "Halving": "(trials, parts)", "Halving.go": "(self, *, calls=1)", "Halving.is_over": "(self)",
        "Halving.stands": "(self)", "Halving.many": "(self)", "halved": "(trials, parts)",
    },
    "cutting": {"cut_down": "(trials, parts)", "quick": "(trials, parts)"},
    "isolating": {"isolated": "(trials, failing, *, passing=())"},
    "papers": {
        "least_paper": "(trials, parts)", "isolated_paper": "(trials, passing, failing)",
        "check_least": "(rows, paper)", "check_isolated": "(rows, paper)",
    },
    "small": {"bottoms": "(trials, count)", "breach": "(trials, count)", "is_monotone": "(trials, count)"},
    "grammars": {
        "Grammar": "(text)", "Grammar.names": "(self)", "Grammar.start": "(self)",
        "Grammar.alternatives": "(self, name)", "Grammar.begins": "(self, name)", "Grammar.count_of": "(self, name)",
        "Grammar.counts": "(self)", "Grammar.least_tree": "(self, name=None)", "Grammar.__eq__": "(self, other)",
        "Grammar.__str__": "(self)", "Grammar.__len__": "(self)", "check_counts": "(grammar, paper)",
    },
    "trees": {
        "is_tree": "(grammar, thing, *, name=None)", "read_tree": "(grammar, text, *, name=None)",
        "tokens_of": "(tree)", "text_of": "(tree)",
    },
    "cuts": {
        "places": "(tree)", "optional": "(tree)", "thing_at": "(tree, place)", "cuts_of": "(grammar, tree)",
        "cut_by": "(grammar, tree, cut)",
    },
    "texttrials": {
        "TextTrials": "(test, *, most=20000, known=())", "TextTrials.ask": "(self, text)",
        "TextTrials.fails": "(self, text)", "TextTrials.rows": "(self)", "TextTrials.verdict_of": "(self, text)",
        "TextTrials.known_rows": "(self)", "TextTrials.is_calling": "(self)", "TextTrials.allow": "(self, more)",
        "TextTrials.left": "(self)", "TextTrials.same_test": "(self)", "TextTrials.__len__": "(self)",
    },
    "pruning": {
        "by_levels": "(trials, grammar, tree)", "cut_down_tree": "(trials, grammar, tree)",
        "pruned": "(trials, grammar, tree)", "cut_paper": "(trials, grammar, tree)",
        "check_cuts": "(grammar, rows, paper)",
    },
    "links": {
        "is_links": "(thing, count=120)", "closure": "(links, parts)", "without_fall": "(links, parts, number)",
        "is_closed": "(links, parts)", "fall": "(links, number)", "links_of": "(case)",
    },
    "closing": {
        "closed_down": "(trials, links, parts)", "closed_paper": "(trials, links, parts)",
        "check_closed": "(links, rows, paper)",
    },
    "sessions": {
        "Session": "(test, count, *, most=20000)", "Session.halve": "(self, *, calls=1)",
        "Session.drop": "(self, parts)", "Session.close": "(self, links)",
        "Session.retell": "(self, test, *, changed=None)", "Session.back": "(self)", "Session.again": "(self)",
        "Session.stands": "(self)", "Session.size": "(self)", "Session.rows": "(self)", "Session.known_rows": "(self)",
        "Session.left": "(self)", "Session.is_over": "(self)", "Session.log": "(self)", "Session.is_busy": "(self)",
        "Session.many": "(self)", "Session.paper": "(self)", "Session.copy": "(self)",
        "Session.__eq__": "(self, other)", "Session.__len__": "(self)",
    },
    "choosing": {"better": "(trials, parts)"},
    "rules": {"holds": "(case, rule, parts=None)", "teller": "(case, text)", "text_teller": "(text)"},
    "desk": {"Desk": "()", "Desk.say": "(self, line)"},
}
VALUES = {("cases", "MOST_PIECES"): 120, ("trials", "MOST_CALLS"): 20000, ("trees", "MOST_TOKENS"): 100}
LISTS = "LIST = ( ITEM* )\nITEM = x bang? ; | [ LIST ]"
LINKS = ((1, 0), (2, 1))
ROWS = [((0, 1), "fail"), ((0,), "pass"), ((1,), "pass"), ((), "pass")]
TEXT_ROWS = [("( x ; )", "fail"), ("( )", "pass")]


def grammar():
    return Grammar(LISTS)


def tree():
    return read_tree(grammar(), "( x ; )")


def test(parts):
    return "fail" if {0, 1} <= set(parts) else "pass"


def other_test(parts):
    return "fail" if 1 in parts else "pass"


def text_test(text):
    return "fail" if "x" in text.split(" ") else "pass"


def trials():
    return Trials(test)


def texts():
    return TextTrials(text_test)


def known():
    return Trials(test, known=ROWS)


def halving():
    return Halving(trials(), (0, 1, 2))


def session():
    return Session(test, 3)


def desk():
    return Desk()


# Of which module, or which made thing, what is called, with what it wants by its names, in their order.
CALLS = [
    ("errors", "BadValue", {"what": "x"}), ("errors", "BadVerdict", {"told": 5}), ("errors", "Spent", {"most": 5}),
    ("errors", "Gone", {"why": "x"}), ("errors", "NotSo", {"parts": (0,), "verdict": "pass"}),
    ("errors", "BadRow", {"row": 1, "word": 2}), ("errors", "BadToken", {"place": 2}),
    ("errors", "NoEnd", {"name": "A"}), ("errors", "Nothing", {"about": "back"}),
    ("cases", "is_configuration", {"thing": (0, 5), "count": 5}), ("cases", "full", {"count": 3}),
    ("cases", "without", {"parts": (0, 1), "others": (1, 2)}), ("cases", "together", {"parts": (3,), "others": (1, 2)}),
    ("cases", "is_within", {"parts": (1,), "others": (1, 2)}), ("cases", "one_less", {"parts": (1, 2)}),
    ("cases", "parted", {"parts": (1, 2, 3), "many": 2}), ("cases", "Case", {"pieces": ["a", "b"]}),
    ("cases", "cut", {"text": "a b", "by": "words"}),
    (lambda: Case(["a", "b"]), "joined", {"parts": (1,)}), (lambda: Case(["a", "b"]), "kept", {"parts": (1,)}),
    ("trials", "is_row", {"thing": ((0,), "fail")}), ("trials", "Trials", {"test": test, "most": 5, "known": ROWS}),
    (trials, "ask", {"parts": (0, 1)}), (trials, "fails", {"parts": (0, 1)}), (known, "verdict_of", {"parts": (0, 1)}),
    (trials, "allow", {"more": 5}),
    ("halving", "Halving", {"trials": trials, "parts": (0, 1)}),
    ("halving", "halved", {"trials": trials, "parts": (0, 1)}), (halving, "go", {"calls": 3}),
    ("cutting", "cut_down", {"trials": trials, "parts": (0, 1, 2)}),
    ("cutting", "quick", {"trials": trials, "parts": (0, 1, 2)}),
    ("isolating", "isolated", {"trials": trials, "failing": (0, 1, 2), "passing": (2,)}),
    ("papers", "least_paper", {"trials": trials, "parts": (0, 1)}),
    ("papers", "isolated_paper", {"trials": trials, "passing": (0,), "failing": (0, 1)}),
    ("papers", "check_least", {"rows": ROWS, "paper": ((0, 1), ((0, "pass"), (1, "pass")))}),
    ("papers", "check_isolated", {"rows": ROWS, "paper": ((0,), (0, 1), ((1, "fail", "pass"),))}),
    ("small", "bottoms", {"trials": trials, "count": 3}), ("small", "breach", {"trials": trials, "count": 3}),
    ("small", "is_monotone", {"trials": trials, "count": 3}),
    ("grammars", "Grammar", {"text": LISTS}), (grammar, "alternatives", {"name": "ITEM"}),
    (grammar, "begins", {"name": "ITEM"}), (grammar, "count_of", {"name": "ITEM"}),
    (grammar, "least_tree", {"name": "ITEM"}),
    ("grammars", "check_counts", {"grammar": grammar, "paper": Grammar(LISTS).counts()}),
    ("trees", "is_tree", {"grammar": grammar, "thing": tree, "name": "LIST"}),
    ("trees", "read_tree", {"grammar": grammar, "text": "x ;", "name": "ITEM"}),
    ("trees", "tokens_of", {"tree": tree}), ("trees", "text_of", {"tree": tree}),
    ("cuts", "places", {"tree": tree}), ("cuts", "optional", {"tree": tree}),
    ("cuts", "thing_at", {"tree": tree, "place": (1, 0)}), ("cuts", "cuts_of", {"grammar": grammar, "tree": tree}),
    ("cuts", "cut_by", {"grammar": grammar, "tree": tree, "cut": ("drop", (1, 0))}),
    ("texttrials", "TextTrials", {"test": text_test, "most": 5, "known": TEXT_ROWS}),
    (texts, "ask", {"text": "x"}), (texts, "fails", {"text": "x"}), (texts, "verdict_of", {"text": "x"}),
    (texts, "allow", {"more": 5}),
    ("pruning", "by_levels", {"trials": texts, "grammar": grammar, "tree": tree}),
    ("pruning", "cut_down_tree", {"trials": texts, "grammar": grammar, "tree": tree}),
    ("pruning", "pruned", {"trials": texts, "grammar": grammar, "tree": tree}),
    ("pruning", "cut_paper", {"trials": texts, "grammar": grammar, "tree": tree}),
    ("pruning", "check_cuts", {"grammar": grammar, "rows": TEXT_ROWS,
                               "paper": (read_tree(Grammar(LISTS), "( x ; )"), ("pass", "pass"))}),
    ("links", "is_links", {"thing": LINKS, "count": 3}), ("links", "closure", {"links": LINKS, "parts": (2,)}),
    ("links", "without_fall", {"links": LINKS, "parts": (0, 1, 2), "number": 1}),
    ("links", "is_closed", {"links": LINKS, "parts": (0, 1)}), ("links", "fall", {"links": LINKS, "number": 1}),
    ("links", "links_of", {"case": lambda: cut("x\ny x\n")}),
    ("closing", "closed_down", {"trials": trials, "links": LINKS, "parts": (0, 1, 2)}),
    ("closing", "closed_paper", {"trials": trials, "links": LINKS, "parts": (0, 1)}),
    ("closing", "check_closed", {"links": LINKS, "rows": ROWS, "paper": ((0, 1), ((0, "pass"), (1, "pass")))}),
    ("sessions", "Session", {"test": test, "count": 3, "most": 7}), (session, "halve", {"calls": 5}),
    (session, "drop", {"parts": (2,)}), (session, "close", {"links": LINKS}),
    (session, "retell", {"test": other_test, "changed": (2,)}),
    ("choosing", "better", {"trials": trials, "parts": (0, 1, 2)}),
    ("rules", "holds", {"case": lambda: Case(["a", "x"]), "rule": "has x", "parts": (1,)}),
    ("rules", "teller", {"case": lambda: Case(["a", "x"]), "text": "has x"}),
    ("rules", "text_teller", {"text": "has x ; has y"}), (desk, "say", {"line": "case x"}),
]
# Arguments of which a def is itself what is handed in, and not one that makes it anew.
HANDED_IN = ("test",)


def made(named):
    """What is handed in, each thing that is made anew made for this call alone."""
    return {name: thing() if callable(thing) and name not in HANDED_IN else thing for name, thing in named.items()}


def called(place, name, args, named):
    """What a call tells, and what stands behind it, where that can be compared."""
    thing = importlib.import_module(f"leastfail.{place}") if isinstance(place, str) else place()
    told = getattr(thing, name)(*args, **named)
    return comparable(told), None if isinstance(place, str) else comparable(thing)


def comparable(thing):
    if isinstance(thing, Exception):
        return type(thing), vars(thing)
    if isinstance(thing, (Trials, TextTrials)):
        return thing.rows(), thing.known_rows(), thing.left()
    if isinstance(thing, Halving):
        return thing.stands(), thing.many(), thing.is_over()
    if isinstance(thing, Session):
        return thing.stands(), thing.rows(), thing.known_rows(), thing.left(), thing.log(), thing.many()
    if isinstance(thing, Desk):
        return thing.say("text"), thing.say("begin"), thing.say("text")
    if inspect.isfunction(thing):
        return [thing(asked) for asked in ("x", "y", "z")] if "told" in inspect.signature(thing).parameters else [
            thing(asked) for asked in ((), (0,), (1,), (0, 1))]
    return thing


class InterfaceTests(unittest.TestCase):

    def test_all_names(self):
        for module, names in NAMES.items():
            found = importlib.import_module(f"leastfail.{module}")
            for name, signature in names.items():
                with self.subTest(module=module, name=name):
                    owner, _, method = name.partition(".")
                    thing = getattr(found, owner)
                    if method:
                        self.assertIn(method, vars(thing))
                        thing = getattr(thing, method)
                    self.assertEqual(str(inspect.signature(thing)), signature)
        for (module, name), value in VALUES.items():
            self.assertEqual(getattr(importlib.import_module(f"leastfail.{module}"), name), value)

    def test_all_that_want_something_are_called_here(self):
        wanted = {name.split(".")[-1] for names in NAMES.values() for name, signature in names.items()
                  if signature not in ("()", "(self)", "(self, other)")}
        self.assertEqual({name for _, name, _ in CALLS}, wanted)

    def test_by_names_in_whatever_order_and_by_places(self):
        for place, name, named in CALLS:
            with self.subTest(name=name):
                right = called(place, name, (), made(named))
                for order in permutations(named):
                    things = made(named)
                    self.assertEqual(called(place, name, (), {one: things[one] for one in order}), right)
                for many in range(1, self.places(place, name, named) + 1):
                    things = made(named)
                    args = list(things.values())[:many]
                    rest = {one: things[one] for one in list(things)[many:]}
                    self.assertEqual(called(place, name, args, rest), right)

    def places(self, place, name, named):
        """How many arguments may be handed in by their places; one more is refused."""
        found = importlib.import_module(f"leastfail.{place}") if isinstance(place, str) else place()
        parameters = inspect.signature(getattr(found, name)).parameters.values()
        many = sum(one.kind == one.POSITIONAL_OR_KEYWORD for one in parameters)
        if many < len(named):
            with self.assertRaises(TypeError):
                called(place, name, list(made(named).values()), {})
        return many

    def test_defaults_left_out_or_told(self):
        defaults = {"is_configuration": {"count": 120}, "cut": {"by": "lines"}, "joined": {"parts": None},
                    "Trials": {"most": 20000, "known": ()}, "go": {"calls": 1}, "isolated": {"passing": ()},
                    "least_tree": {"name": None}, "is_tree": {"name": None}, "TextTrials": {"most": 20000, "known": ()},
                    "is_links": {"count": 120}, "Session": {"most": 20000}, "halve": {"calls": 1},
                    "retell": {"changed": None}, "holds": {"parts": None}, "Gone": {"why": ""}}
        seen = set()
        for place, name, named in CALLS:
            if name in defaults:
                seen.add(name)
                told = {one: thing for one, thing in named.items() if one not in defaults[name]}
                right = called(place, name, (), made(told))
                for one, default in defaults[name].items():
                    self.assertEqual(called(place, name, (), {**made(told), one: default}), right, name)
                self.assertEqual(called(place, name, (), {**made(told), **defaults[name]}), right, name)
        self.assertEqual(seen, set(defaults))
        grammar_start = Grammar(LISTS)
        self.assertEqual(read_tree(grammar_start, "( )"), read_tree(grammar_start, "( )", name=None))

    def test_errors_stand_under_what_is_told(self):
        for error, above in ((BadValue, ValueError), (BadVerdict, TypeError), (Spent, OverflowError), (Gone, Exception),
                             (NotSo, LookupError), (BadRow, BadValue), (BadToken, BadValue), (NoEnd, KeyError),
                             (Nothing, IndexError)):
            self.assertEqual(error.__bases__, (above,))


if __name__ == "__main__":
    unittest.main()

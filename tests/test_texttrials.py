"""TEXT TRIALS [0], [3], [4], [55]."""

import inspect
import unittest

from leastfail.errors import BadRow, BadValue, BadVerdict, Gone, Nested, NotSo, Spent
from leastfail.texttrials import MOST_CALLS, TextTrials
from leastfail.trials import Trials
from tests.anything import NO_NUMBERS, NO_TEXT_ROWS, NO_TEXTS, NO_VERDICTS, things
from tests.refusals import RefusalTests

VERDICTS = ("fail", "pass", "unresolved")
OUT_OF_BOUNDS = [-1, 10 ** 6 + 1, 10 ** 30, -10 ** 30]


class Recorder:
    """A TEST that keeps what it was CALLED with: "fail" with an x, "unresolved" of "u" alone, else "pass"."""

    def __init__(self):
        self.calls = []
        self.test = lambda text: self.tell(text)

    def tell(self, text):
        self.calls.append(text)
        if "x" in text:
            return "fail"
        return "unresolved" if text == "u" else "pass"


def telling(answers):
    """A TEST that tells, or raises, one of the answers after another."""
    left = list(answers)

    def test(text):
        answer = left.pop(0)
        if isinstance(answer, BaseException):
            raise answer
        return answer
    return test


class InterfaceTests(unittest.TestCase):

    def test_arguments_defaults_and_stars(self):
        told = {
            TextTrials: "(test, *, most=20000, known=())",
            TextTrials.ask: "(self, text)",
            TextTrials.fails: "(self, text)",
            TextTrials.rows: "(self)",
            TextTrials.verdict_of: "(self, text)",
            TextTrials.known_rows: "(self)",
            TextTrials.is_calling: "(self)",
            TextTrials.allow: "(self, more)",
            TextTrials.left: "(self)",
            TextTrials.same_test: "(self)",
        }
        for thing, signature in told.items():
            with self.subTest(name=thing.__name__):
                self.assertEqual(str(inspect.signature(thing)), signature)
                if thing is not TextTrials:
                    self.assertIn(thing.__name__, vars(TextTrials))
        for name in ("__init__", "__len__"):
            self.assertIn(name, vars(TextTrials))
        self.assertEqual(MOST_CALLS, 20000)

    def test_neither_kind_is_the_other(self):
        self.assertNotIsInstance(TextTrials(Recorder().test), Trials)
        self.assertNotIsInstance(Trials(Recorder().test), TextTrials)

    def test_by_name(self):
        trials = TextTrials(known=[("k", "fail")], most=2, test=Recorder().test)
        self.assertEqual(trials.ask(text="x"), "fail")
        self.assertIs(trials.fails(text="y"), False)
        self.assertEqual(trials.verdict_of(text="k"), "fail")
        trials.allow(more=1)
        self.assertEqual(trials.left(), 1)

    def test_most_and_known_are_handed_in_by_their_names(self):
        with self.assertRaises(TypeError):
            TextTrials(Recorder().test, 5)

    def test_left_out(self):
        trials = TextTrials(Recorder().test)
        self.assertEqual((trials.left(), trials.known_rows(), len(trials)), (20000, [], 0))


class AskTests(RefusalTests):

    def test_each_verdict(self):
        trials = TextTrials(Recorder().test)
        self.assertEqual([trials.ask(text) for text in ("a x", "u", "")], ["fail", "unresolved", "pass"])
        self.assertEqual([trials.fails(text) for text in ("a x", "u", "", "x", "y")], [True, False, False, True, False])

    def test_the_test_is_called_with_the_text_alone(self):
        seen = []

        def test(*args, **named):
            seen.append((args, named))
            return "pass"
        TextTrials(test).ask("a b")
        self.assertEqual(seen, [(("a b",), {})])

    def test_what_is_known_is_not_called_again(self):
        recorder = Recorder()
        trials = TextTrials(recorder.test)
        for text in ("x", "y", "u", ""):
            first = trials.ask(text)
            self.assertEqual(trials.ask(text), first)
            self.assertEqual(trials.fails(text), first == "fail")
        trials.fails("z")
        trials.ask("z")
        self.assertEqual(recorder.calls, ["x", "y", "u", "", "z"])
        self.assertEqual(len(trials), 5)

    def test_the_same_text_made_anew_is_not_called_again(self):
        recorder = Recorder()
        trials = TextTrials(recorder.test)
        trials.ask(" ".join(["a", "b"]))
        trials.ask("".join(["a ", "b"]))
        self.assertEqual(recorder.calls, ["a b"])

    def test_whatever_texts(self):
        recorder = Recorder()
        trials = TextTrials(recorder.test)
        texts = ["", " ", "\n", "a  b", " a", "a ", "a\nb", "A = |", "~" * 20000, "~" * 19999 + "}"]
        for text in texts + texts:
            trials.ask(text)
        self.assertEqual(recorder.calls, texts)
        self.assertEqual(trials.rows(), [(text, "pass") for text in texts])
        self.assertEqual(trials.known_rows(), [(text, "pass") for text in sorted(texts)])

    def test_rows_in_the_order_of_calls_and_known_rows_rising(self):
        trials = TextTrials(Recorder().test, known=[("b", "fail")])
        for text in ("x", "", "u", "a", "x", "ab", "X", "B"):
            trials.ask(text)
        self.assertEqual(trials.rows(), [("x", "fail"), ("", "pass"), ("u", "unresolved"), ("a", "pass"),
                                         ("ab", "pass"), ("X", "pass"), ("B", "pass")])
        self.assertEqual(trials.known_rows(), [("", "pass"), ("B", "pass"), ("X", "pass"), ("a", "pass"),
                                               ("ab", "pass"), ("b", "fail"), ("u", "unresolved"), ("x", "fail")])

    def test_verdict_of_calls_nothing(self):
        recorder = Recorder()
        trials = TextTrials(recorder.test, known=[("k", "fail")])
        self.assertIs(trials.verdict_of("x"), None)
        trials.ask("x")
        self.assertEqual((trials.verdict_of("x"), trials.verdict_of("k")), ("fail", "fail"))
        self.assertIs(trials.verdict_of(""), None)
        self.assertEqual(recorder.calls, ["x"])

    def test_text_refused(self):
        recorder = Recorder()
        trials = TextTrials(recorder.test)
        for call in (trials.ask, trials.fails, trials.verdict_of):
            self.all_refused("text", call, NO_TEXTS)
        self.assertEqual((recorder.calls, trials.rows(), trials.known_rows()), ([], [], []))

    def test_text_refused_ahead_of_spent(self):
        trials = TextTrials(Recorder().test, most=0)
        self.all_refused("text", trials.ask, NO_TEXTS)
        self.all_refused("text", trials.fails, NO_TEXTS)

    def test_told_lists_are_the_askers_own(self):
        trials = TextTrials(Recorder().test, known=[("k", "fail")])
        trials.ask("x")
        rows, known = trials.rows(), trials.known_rows()
        rows.clear()
        known.append(("a", "fail"))
        self.assertEqual(trials.rows(), [("x", "fail")])
        self.assertEqual(trials.known_rows(), [("k", "fail"), ("x", "fail")])
        self.assertEqual((len(trials), trials.left()), (1, 19999))
        trials.ask("a")
        self.assertEqual(trials.verdict_of("a"), "pass")
        self.assertEqual((rows, known[2:]), ([], [("a", "fail")]))


class KnownTests(RefusalTests):
    rows = [("b", "fail"), ("", "unresolved"), ("x", "pass")]

    def test_known_is_used_as_it_is(self):
        for known in (self.rows, tuple(self.rows)):
            recorder = Recorder()
            trials = TextTrials(recorder.test, known=known)
            self.assertEqual([trials.ask(text) for text in ("b", "", "x")], ["fail", "unresolved", "pass"])
            self.assertEqual((trials.fails("b"), trials.fails("x")), (True, False))
            self.assertEqual((recorder.calls, trials.rows(), len(trials), trials.left()), ([], [], 0, 20000))
            self.assertEqual(trials.known_rows(), sorted(self.rows))
            trials.ask("xx")
            self.assertEqual(trials.rows(), [("xx", "fail")])
            self.assertEqual(trials.known_rows(), sorted(self.rows + [("xx", "fail")]))

    def test_what_is_done_to_known_later(self):
        known = list(self.rows)
        trials = TextTrials(Recorder().test, known=known)
        known[0] = ("b", "pass")
        known.append(("c", "fail"))
        self.assertEqual(trials.known_rows(), sorted(self.rows))
        trials.ask("d")
        self.assertEqual(known, [("b", "pass"), ("", "unresolved"), ("x", "pass"), ("c", "fail")])

    def test_nothing_known(self):
        for known in ((), []):
            self.assertEqual(TextTrials(Recorder().test, known=known).known_rows(), [])

    def test_a_text_twice(self):
        for verdict in VERDICTS:
            known = self.rows + [("b", verdict)]
            self.refused("known", TextTrials, Recorder().test, known=known)
            self.refused("known", TextTrials, Recorder().test, known=tuple(known))

    def test_known_refused(self):
        def make(known):
            return TextTrials(Recorder().test, known=known)
        self.all_refused("known", make, things() + NO_TEXT_ROWS + [[((0,), "fail")]])
        self.all_refused("known", lambda thing: make([("a", "fail"), thing]), things())
        self.all_refused("known", lambda thing: make([(thing, "fail")]), NO_TEXTS)
        self.all_refused("known", lambda thing: make([("a", thing)]), NO_VERDICTS)

    def test_most_refused(self):
        def make(most):
            return TextTrials(Recorder().test, most=most)
        self.all_refused("most", make, NO_NUMBERS + OUT_OF_BOUNDS)

    def test_most_ahead_of_known(self):
        self.refused("most", TextTrials, Recorder().test, most=-1, known=None)
        self.refused("most", TextTrials, Recorder().test, known=[("", "x")], most=10 ** 6 + 1)
        self.refused("known", TextTrials, Recorder().test, most=0, known=None)


class MostTests(RefusalTests):

    def spent(self, most, call, text):
        with self.assertRaises(Spent) as caught:
            call(text)
        self.assertEqual(caught.exception.most, most)

    def test_spent(self):
        recorder = Recorder()
        trials = TextTrials(recorder.test, most=2, known=[("k", "fail")])
        trials.ask("a")
        trials.ask("a")
        trials.ask("k")
        self.assertEqual((trials.left(), len(trials)), (1, 1))
        trials.ask("x")
        self.assertEqual((trials.left(), len(trials)), (0, 2))
        self.spent(2, trials.ask, "b")
        self.spent(2, trials.fails, "b")
        self.assertEqual(recorder.calls, ["a", "x"])
        self.assertEqual(trials.rows(), [("a", "pass"), ("x", "fail")])
        self.assertIs(trials.verdict_of("b"), None)
        self.assertIs(trials.is_calling(), False)
        self.assertEqual((trials.ask("k"), trials.ask("x"), trials.fails("x")), ("fail", "fail", True))

    def test_most_at_its_bounds(self):
        self.assertEqual(TextTrials(Recorder().test, most=10 ** 6).left(), 10 ** 6)
        trials = TextTrials(Recorder().test, most=0, known=[("", "pass")])
        self.spent(0, trials.ask, "a")
        self.assertEqual((trials.ask(""), trials.left()), ("pass", 0))

    def test_allow(self):
        recorder = Recorder()
        trials = TextTrials(recorder.test, most=0)
        trials.allow(0)
        self.spent(0, trials.ask, "x")
        self.assertIs(trials.allow(2), None)
        self.assertEqual((trials.left(), trials.ask("x")), (2, "fail"))
        trials.allow(1)
        trials.ask("a")
        trials.ask("b")
        self.spent(3, trials.ask, "c")
        self.assertEqual(recorder.calls, ["x", "a", "b"])
        trials.allow(10 ** 6)
        trials.allow(10 ** 6)
        self.assertEqual(trials.left(), 2 * 10 ** 6)

    def test_allow_refused(self):
        trials = TextTrials(Recorder().test, most=5)
        self.all_refused("more", trials.allow, NO_NUMBERS + OUT_OF_BOUNDS)
        self.assertEqual(trials.left(), 5)


class StoppedTests(unittest.TestCase):

    def test_told_anything(self):
        for at, told in enumerate(NO_VERDICTS):
            with self.subTest(at=at):
                answers = [told, told, "fail"]
                trials = TextTrials(lambda text: answers.pop(0), most=1)
                for call in (trials.ask, trials.fails):
                    with self.assertRaises(BadVerdict) as caught:
                        call("a")
                    self.assertIs(caught.exception.told, told)
                    self.assertEqual((trials.rows(), trials.known_rows(), trials.left()), ([], [], 1))
                    self.assertIs(trials.is_calling(), False)
                self.assertEqual(trials.ask("a"), "fail")
                self.assertEqual(trials.rows(), [("a", "fail")])

    def test_whatever_is_raised_goes_on_as_it_is(self):
        errors = [Gone(), Gone("lost"), ValueError("x"), KeyError("x"), ZeroDivisionError(), StopIteration(),
                  RecursionError("deep"), KeyboardInterrupt(), SystemExit(3), BadValue("text"), BadVerdict(1),
                  Spent(3), Nested(), NotSo("a", "pass"), BadRow(1, 2)]
        for error in errors:
            with self.subTest(error=type(error).__name__):
                trials = TextTrials(telling([error, error, "fail"]), most=1)
                for call in (trials.ask, trials.fails):
                    with self.assertRaises(type(error)) as caught:
                        call("a b")
                    self.assertIs(caught.exception, error)
                    self.assertIs(trials.is_calling(), False)
                    self.assertEqual((trials.rows(), trials.known_rows()), ([], []))
                    self.assertEqual((len(trials), trials.left()), (0, 1))
                self.assertIs(trials.verdict_of("a b"), None)
                self.assertEqual(trials.ask("a b"), "fail")
                self.assertEqual(trials.rows(), [("a b", "fail")])

    def test_the_others_are_told_behind_it(self):
        trials = TextTrials(telling(["pass", Gone("x"), "unresolved"]), known=[("k", "fail")])
        trials.ask("a")
        with self.assertRaises(Gone):
            trials.ask("b")
        self.assertEqual([trials.ask(text) for text in ("a", "k", "c")], ["pass", "fail", "unresolved"])
        self.assertEqual(trials.rows(), [("a", "pass"), ("c", "unresolved")])


class NestedTests(RefusalTests):

    def amid(self, deed, *, most=10, known=()):
        """TRIALS whose TEST does the deed with them whenever it is CALLED; and what the deed told, each time."""
        told = []

        def test(text):
            told.append(deed(trials))
            return "fail"
        trials = TextTrials(test, most=most, known=known)
        return trials, told

    def nested(self, trials, text):
        for call in (trials.ask, trials.fails):
            with self.assertRaises(Nested):
                call(text)

    def test_amid_a_call_nothing_is_asked(self):
        def deed(trials):
            for text in ("", "a", "b", "k"):
                self.nested(trials, text)
            return len(trials)
        trials, told = self.amid(deed, known=[("k", "pass")])
        self.assertEqual((trials.ask("a"), trials.ask("b")), ("fail", "fail"))
        self.assertEqual(told, [0, 1])
        self.assertEqual(trials.rows(), [("a", "fail"), ("b", "fail")])
        self.assertEqual(trials.ask("k"), "pass")

    def test_bad_value_ahead_of_nested(self):
        def deed(trials):
            for call in (trials.ask, trials.fails, trials.verdict_of):
                self.all_refused("text", call, NO_TEXTS)
            self.all_refused("more", trials.allow, NO_NUMBERS)
        trials, told = self.amid(deed)
        trials.ask("a")
        self.assertEqual(told, [None])

    def test_nested_ahead_of_spent(self):
        trials, told = self.amid(lambda trials: self.nested(trials, "b"), most=1)
        trials.ask("a")
        self.assertEqual((told, trials.left()), ([None], 0))

    def test_amid_a_call_all_else_is_told(self):
        def deed(trials):
            trials.allow(5)
            other = trials.same_test()
            return (trials.is_calling(), trials.rows(), trials.known_rows(), trials.verdict_of("k"),
                    trials.verdict_of("a"), trials.left(), len(trials), other.is_calling(), other.ask("k"))
        trials, told = self.amid(deed, most=1, known=[("k", "pass")])
        self.assertIs(trials.is_calling(), False)
        trials.ask("a")
        self.assertIs(trials.is_calling(), False)
        self.assertEqual(told, [(True, [], [("k", "pass")], "pass", None, 6, 0, False, "pass")])
        self.assertEqual((trials.left(), len(trials)), (5, 1))

    def test_a_nested_that_the_test_met_goes_on(self):
        trials, _ = self.amid(lambda trials: trials.ask("a"))
        for _ in range(2):
            with self.assertRaises(Nested):
                trials.ask("a")
            self.assertIs(trials.is_calling(), False)
        self.assertEqual((trials.rows(), trials.left()), ([], 10))

    def test_ready_again_however_the_call_ends(self):
        trials = TextTrials(telling(["fail", "x", Gone(), Nested(), KeyboardInterrupt(), "pass"]))
        for at, error in enumerate([None, BadVerdict, Gone, Nested, KeyboardInterrupt, None]):
            if error is None:
                trials.ask(str(at))
            else:
                with self.assertRaises(error):
                    trials.ask(str(at))
            self.assertIs(trials.is_calling(), False)
        self.assertEqual(trials.rows(), [("0", "fail"), ("5", "pass")])

    def test_trials_and_text_trials_each_of_which_asks_the_other(self):
        first = TextTrials(lambda text: second.ask((len(text),)))
        second = Trials(lambda parts: first.ask("a" * len(parts)))
        for call, asked in ((first.ask, "abc"), (second.ask, (1, 2))):
            with self.assertRaises(Nested):
                call(asked)
            self.assertEqual((first.is_calling(), second.is_calling()), (False, False))
        self.assertEqual(first.rows() + second.rows(), [])


class SameTestTests(unittest.TestCase):

    def test_all_is_known_and_none_is_called(self):
        recorder = Recorder()
        trials = TextTrials(recorder.test, most=3, known=[("k", "fail")])
        trials.ask("x")
        trials.ask("a")
        other = trials.same_test()
        self.assertIsInstance(other, TextTrials)
        self.assertEqual((other.rows(), len(other), other.left()), ([], 0, 3))
        self.assertEqual(other.known_rows(), trials.known_rows())
        self.assertEqual([other.ask(text) for text in ("a", "x", "k")], ["pass", "fail", "fail"])
        self.assertEqual(recorder.calls, ["x", "a"])

    def test_each_goes_on_by_itself(self):
        recorder = Recorder()
        trials = TextTrials(recorder.test, most=3)
        trials.ask("x")
        other = trials.same_test()
        other.ask("a")
        trials.ask("u")
        other.allow(7)
        self.assertEqual(trials.rows(), [("x", "fail"), ("u", "unresolved")])
        self.assertEqual(other.rows(), [("a", "pass")])
        self.assertEqual((trials.verdict_of("a"), other.verdict_of("u")), (None, None))
        self.assertEqual((trials.left(), other.left()), (1, 9))
        self.assertEqual(trials.ask("a"), "pass")
        self.assertEqual(recorder.calls, ["x", "a", "u", "a"])

    def test_most_as_it_is(self):
        trials = TextTrials(Recorder().test, most=10 ** 6)
        trials.allow(10 ** 6)
        trials.ask("a")
        other = trials.same_test()
        self.assertEqual((other.left(), other.same_test().left()), (2 * 10 ** 6, 2 * 10 ** 6))
        self.assertEqual(TextTrials(Recorder().test, most=0).same_test().left(), 0)

    def test_the_very_test(self):
        trials = TextTrials(telling(["fail", "pass"]))
        other = trials.same_test()
        self.assertEqual((trials.ask(""), other.ask("")), ("fail", "pass"))


if __name__ == "__main__":
    unittest.main()

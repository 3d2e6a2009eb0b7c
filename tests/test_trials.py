"""VERDICTS, TESTS and TRIALS [0], [3], [4]."""

import inspect
import unittest

from leastfail.cases import full
from leastfail.errors import BadRow, BadValue, BadVerdict, Gone, Nested, NotSo, Spent
from leastfail.trials import MOST_CALLS, Trials, is_row
from tests.anything import NO_CONFIGURATIONS, NO_NUMBERS, NO_VERDICTS, things
from tests.refusals import RefusalTests

VERDICTS = ("fail", "pass", "unresolved")


class Recorder:
    """A TEST that keeps what it was CALLED with: "fail" with 3, "unresolved" with 5 alone, else "pass"."""

    def __init__(self):
        self.calls = []
        self.test = lambda parts: self.tell(parts)

    def tell(self, parts):
        self.calls.append(parts)
        if 3 in parts:
            return "fail"
        return "unresolved" if parts == (5,) else "pass"


def telling(answers):
    """A TEST that tells, or raises, one of the answers after another."""
    left = list(answers)

    def test(parts):
        answer = left.pop(0)
        if isinstance(answer, BaseException):
            raise answer
        return answer
    return test


class InterfaceTests(unittest.TestCase):

    def test_arguments_defaults_and_stars(self):
        told = {
            is_row: "(thing)",
            Trials: "(test, *, most=20000, known=())",
            Trials.ask: "(self, parts)",
            Trials.fails: "(self, parts)",
            Trials.rows: "(self)",
            Trials.verdict_of: "(self, parts)",
            Trials.known_rows: "(self)",
            Trials.is_calling: "(self)",
            Trials.allow: "(self, more)",
            Trials.left: "(self)",
            Trials.same_test: "(self)",
        }
        for thing, signature in told.items():
            with self.subTest(name=thing.__name__):
                self.assertEqual(str(inspect.signature(thing)), signature)
                if thing not in (is_row, Trials):
                    self.assertIn(thing.__name__, vars(Trials))
        self.assertIn("__len__", vars(Trials))

    def test_most_calls(self):
        self.assertEqual(MOST_CALLS, 20000)
        self.assertEqual(Trials(Recorder().test).left(), 20000)

    def test_by_name(self):
        recorder = Recorder()
        trials = Trials(test=recorder.test, known=[((), "fail")], most=2)
        self.assertEqual(trials.ask(parts=(3,)), "fail")
        self.assertIs(trials.fails(parts=(4,)), False)
        self.assertEqual(trials.verdict_of(parts=()), "fail")
        trials.allow(more=1)
        self.assertEqual(trials.left(), 1)

    def test_most_and_known_are_handed_in_by_their_names(self):
        with self.assertRaises(TypeError):
            Trials(Recorder().test, 5)


class IsRowTests(unittest.TestCase):

    def test_rows(self):
        for parts in ((), (0,), (0, 119), full(120)):
            for verdict in VERDICTS:
                self.assertIs(is_row((parts, verdict)), True)
        self.assertIs(is_row(thing=((), "fail")), True)

    def test_of_wrong_length_or_kind(self):
        for thing in ((), ((),), ("fail",), ((), "fail", "fail"), [(), "fail"], ("fail", ()), {(): "fail"}, "ab",
                      ((), ("fail",)), (((), "fail"), "fail"), ((), "fail", ())):
            self.assertIs(is_row(thing), False)

    def test_of_no_configuration(self):
        for at, thing in enumerate(NO_CONFIGURATIONS):
            with self.subTest(at=at):
                self.assertIs(is_row((thing, "fail")), False)

    def test_of_no_verdict(self):
        for at, thing in enumerate(NO_VERDICTS):
            with self.subTest(at=at):
                self.assertIs(is_row(((0,), thing)), False)

    def test_of_anything(self):
        for at, thing in enumerate(things()):
            with self.subTest(at=at):
                self.assertIs(is_row(thing), False)
                self.assertIs(is_row((thing, thing)), False)


class AskTests(RefusalTests):

    def test_each_verdict(self):
        recorder = Recorder()
        trials = Trials(recorder.test)
        self.assertEqual([trials.ask(parts) for parts in ((3, 4), (5,), ())], ["fail", "unresolved", "pass"])
        self.assertIs(trials.fails((3, 4)), True)
        self.assertIs(trials.fails((5,)), False)
        self.assertIs(trials.fails(()), False)
        self.assertIs(trials.fails((3,)), True)
        self.assertIs(trials.fails((2,)), False)

    def test_the_test_is_called_with_the_configuration_alone(self):
        seen = []

        def test(*args, **named):
            seen.append((args, named))
            return "pass"
        Trials(test).ask((1, 2))
        self.assertEqual(seen, [(((1, 2),), {})])
        self.assertIsInstance(seen[0][0][0], tuple)

    def test_what_is_known_is_not_called_again(self):
        recorder = Recorder()
        trials = Trials(recorder.test)
        for parts in ((3,), (4,), (5,)):
            first = trials.ask(parts)
            self.assertEqual(trials.ask(parts), first)
            self.assertEqual(trials.fails(parts), first == "fail")
        trials.fails((6,))
        trials.ask((6,))
        self.assertEqual(recorder.calls, [(3,), (4,), (5,), (6,)])
        self.assertEqual(len(trials), 4)

    def test_rows_in_the_order_of_calls_and_known_rows_rising(self):
        trials = Trials(Recorder().test)
        for parts in ((3, 4), (), (10,), (5,), (3, 4), (2, 100), (3,)):
            trials.ask(parts)
        rows = [((3, 4), "fail"), ((), "pass"), ((10,), "pass"), ((5,), "unresolved"), ((2, 100), "pass"),
                ((3,), "fail")]
        self.assertEqual(trials.rows(), rows)
        self.assertEqual(trials.known_rows(), [((), "pass"), ((2, 100), "pass"), ((3,), "fail"), ((3, 4), "fail"),
                                               ((5,), "unresolved"), ((10,), "pass")])
        self.assertTrue(all(is_row(row) for row in trials.rows() + trials.known_rows()))

    def test_verdict_of_calls_nothing(self):
        recorder = Recorder()
        trials = Trials(recorder.test, known=[((7,), "fail")])
        self.assertIs(trials.verdict_of((3,)), None)
        trials.ask((3,))
        self.assertEqual(trials.verdict_of((3,)), "fail")
        self.assertEqual(trials.verdict_of((7,)), "fail")
        self.assertIs(trials.verdict_of(()), None)
        self.assertEqual(recorder.calls, [(3,)])

    def test_parts_refused(self):
        recorder = Recorder()
        trials = Trials(recorder.test)
        for call in (trials.ask, trials.fails, trials.verdict_of):
            self.all_refused("parts", call, NO_CONFIGURATIONS)
        self.assertEqual((recorder.calls, trials.rows(), trials.known_rows()), ([], [], []))

    def test_parts_refused_ahead_of_spent(self):
        trials = Trials(Recorder().test, most=0)
        self.all_refused("parts", trials.ask, NO_CONFIGURATIONS)
        self.all_refused("parts", trials.fails, NO_CONFIGURATIONS)

    def test_full_of_120(self):
        trials = Trials(Recorder().test)
        self.assertEqual(trials.ask(full(120)), "fail")
        self.assertEqual(trials.rows(), [(full(120), "fail")])

    def test_told_lists_are_the_askers_own(self):
        trials = Trials(Recorder().test, known=[((9,), "fail")])
        trials.ask((3,))
        rows, known = trials.rows(), trials.known_rows()
        rows.clear()
        known.append(((1,), "fail"))
        self.assertEqual(trials.rows(), [((3,), "fail")])
        self.assertEqual(trials.known_rows(), [((3,), "fail"), ((9,), "fail")])
        self.assertEqual((len(trials), trials.left()), (1, 19999))
        trials.ask((1,))
        self.assertEqual(trials.verdict_of((1,)), "pass")
        self.assertEqual((rows, known[2:]), ([], [((1,), "fail")]))


class KnownTests(RefusalTests):
    rows = [((4,), "fail"), ((), "unresolved"), ((3,), "pass")]

    def test_known_is_used_as_it_is(self):
        for known in (self.rows, tuple(self.rows)):
            recorder = Recorder()
            trials = Trials(recorder.test, known=known)
            self.assertEqual([trials.ask(parts) for parts in ((4,), (), (3,))], ["fail", "unresolved", "pass"])
            self.assertIs(trials.fails((4,)), True)
            self.assertIs(trials.fails((3,)), False)
            self.assertEqual((recorder.calls, trials.rows(), len(trials)), ([], [], 0))
            self.assertEqual(trials.known_rows(), sorted(self.rows))
            trials.ask((3, 5))
            self.assertEqual(trials.rows(), [((3, 5), "fail")])
            self.assertEqual(trials.known_rows(), sorted(self.rows + [((3, 5), "fail")]))

    def test_what_is_done_to_known_later(self):
        known = list(self.rows)
        trials = Trials(Recorder().test, known=known)
        known[0] = ((4,), "pass")
        known.append(((8,), "fail"))
        self.assertEqual(trials.known_rows(), sorted(self.rows))
        trials.ask((9,))
        self.assertEqual(known, [((4,), "pass"), ((), "unresolved"), ((3,), "pass"), ((8,), "fail")])

    def test_nothing_known(self):
        for known in ((), []):
            self.assertEqual(Trials(Recorder().test, known=known).known_rows(), [])

    def test_a_configuration_twice(self):
        for verdict in VERDICTS:
            known = self.rows + [((4,), verdict)]
            self.refused("known", Trials, Recorder().test, known=known)
            self.refused("known", Trials, Recorder().test, known=tuple(known))

    def test_known_refused(self):
        def make(known):
            return Trials(Recorder().test, known=known)
        self.all_refused("known", make, things() + ["", "ab", 0, 1, ((), "fail"), [((), "fail"), None]])
        self.all_refused("known", lambda thing: make([((1,), "fail"), thing]), things())
        self.all_refused("known", lambda thing: make([(thing, "fail")]), NO_CONFIGURATIONS)
        self.all_refused("known", lambda thing: make([((), thing)]), NO_VERDICTS)
        self.refused("known", make, [[(), "fail"]])
        self.refused("known", make, {((), "fail"): "pass"})
        self.refused("known", make, iter([((), "fail")]))

    def test_most_refused(self):
        def make(most):
            return Trials(Recorder().test, most=most)
        self.all_refused("most", make, NO_NUMBERS + [-1, 10 ** 6 + 1, 10 ** 30, -10 ** 30])

    def test_most_ahead_of_known(self):
        self.refused("most", Trials, Recorder().test, most=-1, known=None)
        self.refused("most", Trials, Recorder().test, known=[((), "x")], most=10 ** 6 + 1)
        self.refused("known", Trials, Recorder().test, most=0, known=None)


class MostTests(RefusalTests):

    def spent(self, most, call, parts):
        with self.assertRaises(Spent) as caught:
            call(parts)
        self.assertEqual(caught.exception.most, most)

    def test_spent(self):
        recorder = Recorder()
        trials = Trials(recorder.test, most=2, known=[((9,), "fail")])
        self.assertEqual((trials.left(), len(trials)), (2, 0))
        trials.ask((1,))
        self.assertEqual((trials.left(), len(trials)), (1, 1))
        trials.ask((1,))
        trials.ask((9,))
        self.assertEqual((trials.left(), len(trials)), (1, 1))
        trials.ask((3,))
        self.assertEqual((trials.left(), len(trials)), (0, 2))
        self.spent(2, trials.ask, (4,))
        self.spent(2, trials.fails, (4,))
        self.assertEqual(recorder.calls, [(1,), (3,)])
        self.assertEqual(trials.rows(), [((1,), "pass"), ((3,), "fail")])
        self.assertIs(trials.verdict_of((4,)), None)
        self.assertIs(trials.is_calling(), False)

    def test_what_is_known_is_told_still(self):
        trials = Trials(Recorder().test, most=1, known=[((9,), "fail")])
        trials.ask((3,))
        self.spent(1, trials.ask, ())
        self.assertEqual(trials.ask((9,)), "fail")
        self.assertEqual(trials.ask((3,)), "fail")
        self.assertIs(trials.fails((3,)), True)
        self.assertEqual(trials.verdict_of((3,)), "fail")

    def test_most_0(self):
        trials = Trials(Recorder().test, most=0, known=[((), "pass")])
        self.spent(0, trials.ask, (0,))
        self.assertEqual(trials.ask(()), "pass")
        self.assertEqual(trials.left(), 0)

    def test_most_at_its_bound(self):
        self.assertEqual(Trials(Recorder().test, most=10 ** 6).left(), 10 ** 6)

    def test_allow(self):
        recorder = Recorder()
        trials = Trials(recorder.test, most=0)
        self.spent(0, trials.ask, (3,))
        trials.allow(0)
        self.spent(0, trials.ask, (3,))
        self.assertIs(trials.allow(2), None)
        self.assertEqual(trials.left(), 2)
        self.assertEqual(trials.ask((3,)), "fail")
        trials.allow(1)
        trials.ask((4,))
        trials.ask((5,))
        self.spent(3, trials.ask, (6,))
        self.assertEqual(recorder.calls, [(3,), (4,), (5,)])

    def test_allow_at_its_bound(self):
        trials = Trials(Recorder().test, most=10 ** 6)
        trials.allow(10 ** 6)
        trials.allow(10 ** 6)
        self.assertEqual(trials.left(), 3 * 10 ** 6)

    def test_allow_refused(self):
        trials = Trials(Recorder().test, most=5)
        self.all_refused("more", trials.allow, NO_NUMBERS + [-1, 10 ** 6 + 1, 10 ** 30, -10 ** 30])
        self.assertEqual(trials.left(), 5)


class BadVerdictTests(unittest.TestCase):

    def test_told_anything(self):
        for at, told in enumerate(NO_VERDICTS):
            with self.subTest(at=at):
                answers = [told, told, "fail"]
                trials = Trials(lambda parts: answers.pop(0), most=1)
                for call in (trials.ask, trials.fails):
                    with self.assertRaises(BadVerdict) as caught:
                        call((1,))
                    self.assertIs(caught.exception.told, told)
                    self.assertEqual((trials.rows(), trials.known_rows(), trials.left()), ([], [], 1))
                    self.assertIs(trials.is_calling(), False)
                self.assertEqual(trials.ask((1,)), "fail")
                self.assertEqual(trials.rows(), [((1,), "fail")])


class RaisingTests(unittest.TestCase):

    def test_whatever_is_raised_goes_on_as_it_is(self):
        class Own(Exception):
            pass
        errors = [Gone(), Gone("lost"), Own("x"), ValueError("x"), KeyError("x"), ZeroDivisionError(), StopIteration(),
                  RecursionError("deep"), KeyboardInterrupt(), SystemExit(3), BadValue("parts"), BadVerdict(1),
                  Spent(3),
                  Nested(), NotSo((1,), "pass"), BadRow(1, 2)]
        for error in errors:
            with self.subTest(error=type(error).__name__):
                trials = Trials(telling([error, error, "fail"]), most=1)
                for call in (trials.ask, trials.fails):
                    with self.assertRaises(type(error)) as caught:
                        call((1, 2))
                    self.assertIs(caught.exception, error)
                    self.assertIs(trials.is_calling(), False)
                    self.assertEqual((trials.rows(), trials.known_rows()), ([], []))
                    self.assertEqual((len(trials), trials.left()), (0, 1))
                self.assertIs(trials.verdict_of((1, 2)), None)
                self.assertEqual(trials.ask((1, 2)), "fail")
                self.assertEqual(trials.rows(), [((1, 2), "fail")])

    def test_the_others_are_told_behind_it(self):
        trials = Trials(telling(["pass", Gone("x"), "unresolved"]), known=[((9,), "fail")])
        trials.ask((1,))
        with self.assertRaises(Gone):
            trials.ask((2,))
        self.assertEqual(trials.ask((1,)), "pass")
        self.assertEqual(trials.ask((9,)), "fail")
        self.assertEqual(trials.ask((3,)), "unresolved")
        self.assertEqual(trials.rows(), [((1,), "pass"), ((3,), "unresolved")])


class NestedTests(RefusalTests):

    def amid(self, deed, *, most=10, known=()):
        """TRIALS whose TEST does the deed with them whenever it is CALLED; and what the deed told, each time."""
        told = []

        def test(parts):
            told.append(deed(trials))
            return "fail"
        trials = Trials(test, most=most, known=known)
        return trials, told

    def nested(self, trials, parts):
        for call in (trials.ask, trials.fails):
            with self.assertRaises(Nested):
                call(parts)

    def test_amid_a_call_nothing_is_asked(self):
        def deed(trials):
            for parts in ((), (1,), (2,), (9,)):
                self.nested(trials, parts)
            return len(trials)
        trials, told = self.amid(deed, known=[((9,), "pass")])
        self.assertEqual(trials.ask((1,)), "fail")
        self.assertEqual(trials.ask((2,)), "fail")
        self.assertEqual(told, [0, 1])
        self.assertEqual(trials.rows(), [((1,), "fail"), ((2,), "fail")])
        self.assertEqual(trials.ask((9,)), "pass")

    def test_bad_value_ahead_of_nested(self):
        def deed(trials):
            self.all_refused("parts", trials.ask, NO_CONFIGURATIONS)
            self.all_refused("parts", trials.fails, NO_CONFIGURATIONS)
            self.all_refused("parts", trials.verdict_of, NO_CONFIGURATIONS)
            self.all_refused("more", trials.allow, NO_NUMBERS)
        trials, told = self.amid(deed)
        trials.ask((1,))
        self.assertEqual(told, [None])

    def test_nested_ahead_of_spent(self):
        trials, told = self.amid(lambda trials: self.nested(trials, (2,)), most=1)
        trials.ask((1,))
        self.assertEqual(told, [None])
        self.assertEqual(trials.left(), 0)

    def test_amid_a_call_all_else_is_told(self):
        def deed(trials):
            trials.allow(5)
            return (trials.is_calling(), trials.rows(), trials.known_rows(), trials.verdict_of((9,)),
                    trials.verdict_of((1,)), trials.left(), len(trials))
        trials, told = self.amid(deed, most=1, known=[((9,), "pass")])
        self.assertIs(trials.is_calling(), False)
        trials.ask((1,))
        self.assertIs(trials.is_calling(), False)
        self.assertEqual(told, [(True, [], [((9,), "pass")], "pass", None, 6, 0)])
        self.assertEqual((trials.left(), len(trials)), (5, 1))

    def test_amid_a_call_others_of_the_same_test_can_be_asked(self):
        def deed(trials):
            other = trials.same_test()
            return other.is_calling(), other.ask((9,)), other.known_rows()
        trials, told = self.amid(deed, known=[((9,), "pass")])
        trials.ask((1,))
        self.assertEqual(told, [(False, "pass", [((9,), "pass")])])

    def test_a_nested_that_the_test_met_goes_on(self):
        trials, _ = self.amid(lambda trials: trials.ask((1,)))
        for _ in range(2):
            with self.assertRaises(Nested):
                trials.ask((1,))
            self.assertIs(trials.is_calling(), False)
        self.assertEqual((trials.rows(), trials.left()), ([], 10))

    def test_ready_again_however_the_call_ends(self):
        trials = Trials(telling(["fail", "x", Gone(), Nested(), KeyboardInterrupt(), "pass"]))
        for at, error in enumerate([None, BadVerdict, Gone, Nested, KeyboardInterrupt, None]):
            if error is None:
                trials.ask((at,))
            else:
                with self.assertRaises(error):
                    trials.ask((at,))
            self.assertIs(trials.is_calling(), False)
        self.assertEqual(trials.rows(), [((0,), "fail"), ((5,), "pass")])

    def test_two_trials_each_of_which_asks_the_other(self):
        first = Trials(lambda parts: second.ask(parts))
        second = Trials(lambda parts: first.ask(parts))
        for trials in (first, second, first):
            with self.assertRaises(Nested):
                trials.ask((1,))
            self.assertEqual((first.is_calling(), second.is_calling()), (False, False))
        self.assertEqual(first.rows() + second.rows(), [])

    def test_two_trials_one_of_which_bears_it(self):
        def test(parts):
            try:
                return first.ask(())
            except Nested:
                return "unresolved"
        first = Trials(lambda parts: second.ask(parts))
        second = Trials(test)
        self.assertEqual(first.ask((1,)), "unresolved")
        self.assertEqual(first.rows(), [((1,), "unresolved")])
        self.assertEqual(second.rows(), [((1,), "unresolved")])
        self.assertEqual(first.ask((1,)), "unresolved")


class SameTestTests(unittest.TestCase):

    def test_all_is_known_and_none_is_called(self):
        recorder = Recorder()
        trials = Trials(recorder.test, most=3, known=[((9,), "fail")])
        trials.ask((3,))
        trials.ask((2,))
        other = trials.same_test()
        self.assertIsInstance(other, Trials)
        self.assertEqual((other.rows(), len(other), other.left()), ([], 0, 3))
        self.assertEqual(other.known_rows(), trials.known_rows())
        self.assertEqual([other.ask(parts) for parts in ((2,), (3,), (9,))], ["pass", "fail", "fail"])
        self.assertEqual(recorder.calls, [(3,), (2,)])

    def test_each_goes_on_by_itself(self):
        recorder = Recorder()
        trials = Trials(recorder.test, most=3)
        trials.ask((3,))
        other = trials.same_test()
        other.ask((4,))
        trials.ask((5,))
        other.allow(7)
        self.assertEqual(trials.rows(), [((3,), "fail"), ((5,), "unresolved")])
        self.assertEqual(other.rows(), [((4,), "pass")])
        self.assertEqual((trials.verdict_of((4,)), other.verdict_of((5,))), (None, None))
        self.assertEqual((trials.left(), other.left()), (1, 9))
        self.assertEqual(trials.ask((4,)), "pass")
        self.assertEqual(recorder.calls, [(3,), (4,), (5,), (4,)])

    def test_most_as_it_is(self):
        trials = Trials(Recorder().test, most=10 ** 6)
        trials.allow(10 ** 6)
        trials.ask((1,))
        other = trials.same_test()
        self.assertEqual(other.left(), 2 * 10 ** 6)
        self.assertEqual(other.same_test().left(), 2 * 10 ** 6)
        spent = Trials(Recorder().test, most=0)
        self.assertEqual(spent.same_test().left(), 0)

    def test_the_very_test(self):
        trials = Trials(telling(["fail", "pass"]))
        other = trials.same_test()
        self.assertEqual(trials.ask(()), "fail")
        self.assertEqual(other.ask(()), "pass")


if __name__ == "__main__":
    unittest.main()

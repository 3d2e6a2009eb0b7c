"""ISOLATED [0], [3], [4], [10]."""

import inspect
import random
import unittest

from leastfail.cases import full
from leastfail.errors import BadVerdict, Gone, Nested, NotSo, Spent
from leastfail.isolating import isolated
from leastfail.trials import Trials
from tests.anything import NO_CONFIGURATIONS, NO_VERDICTS, things
from tests.refusals import RefusalTests
from tests.tables import (Drawn, Table, Told, Wanting, drawn_parts, drawn_tests, each_once, less, more, tables,
                          way_of_isolating, within)


class IsolatedTests(unittest.TestCase):

    def right(self, told, failing, passing=()):
        """It tells what the document says, by its calls; the rules that were done are told."""
        trials = told.trials()
        pair = isolated(trials, failing, passing=passing)
        way, done, *right = way_of_isolating(told.tell, passing, failing)
        self.assertEqual(pair, tuple(right))
        self.assertIsInstance(pair, tuple)
        calls = each_once([passing, failing] + way)
        self.assertEqual(told.calls, calls)
        self.assertEqual([asked for asked, _ in trials.rows()], calls)
        self.is_isolated(told, *pair)
        self.assertLessEqual(set(passing), set(pair[0]))
        self.assertLessEqual(set(pair[0]), set(pair[1]))
        self.assertLessEqual(set(pair[1]), set(failing))
        between = len(failing) - len(passing)
        self.assertLessEqual(len(calls), 3 * between * (between + 1) + 2)
        self.assertEqual(isolated(trials, failing, passing=passing), pair)
        self.assertEqual(len(told.calls), len(calls))
        return [rule for rule, _, _ in done], [many for _, _, many in done], pair

    def is_isolated(self, told, passing, failing):
        self.assertEqual((told.tell(passing), told.tell(failing)), ("pass", "fail"))
        numbers = less(failing, passing)
        self.assertGreaterEqual(len(numbers), 1)
        if len(numbers) > 1:
            for number in numbers:
                self.assertEqual(told.tell(more(passing, (number,))), "unresolved")
                self.assertEqual(told.tell(less(failing, (number,))), "unresolved")

    def test_arguments(self):
        self.assertEqual(str(inspect.signature(isolated)), "(trials, failing, *, passing=())")
        told = Wanting((1, 2))
        self.assertEqual(isolated(passing=(1,), failing=(0, 1, 2), trials=told.trials()), ((1,), (1, 2)))
        with self.assertRaises(TypeError):
            isolated(told.trials(), (0, 1, 2), (1,))

    def test_every_test_of_few_pieces(self):
        for count in range(1, 4):
            for table in tables(count):
                for passing in within(full(count))[:-1]:
                    if table[passing] == "pass":
                        self.right(Table(table), full(count), passing)

    def test_drawn_tests(self):
        seen = set()
        chance = random.Random("isolated")
        for told, failing in drawn_tests("isolated", 600):
            passing = tuple(sorted(chance.sample(failing, chance.randint(0, len(failing)) // 2)))
            if told.tell(passing) == "pass":
                rules, manys, _ = self.right(told, failing, passing)
                seen.update(rules, manys)
        self.assertLessEqual({1, 2, 3, 4, 5}, seen)

    def test_drawn_tests_that_are_mostly_unresolved(self):
        seen = set()
        chance = random.Random("unresolved")
        for at in range(150):
            failing = drawn_parts(chance, 30)
            told = Drawn(at, failing, (1, 1, 60))
            if failing:
                tell = told.tell
                told.tell = lambda parts: "pass" if parts == () else tell(parts)
                rules, _, _ = self.right(told, failing)
                seen.update(zip(rules, rules[1:]))
        self.assertLessEqual({(5, 3), (5, 4), (3, 4), (3, 3), (4, 4), (3, 5), (4, 5)}, seen)

    def test_all_120(self):
        self.right(Wanting((3, 60, 61, 100)), full(120))
        self.right(Told(lambda parts: "pass" if parts == () else "fail" if len(parts) == 120 else "unresolved"),
                   full(120))

    def tell_of(self, verdicts):
        """A TEST on four pieces, "unresolved" but of these, the empty one and the FULL one."""
        known = {(): "pass", full(4): "fail", **verdicts}
        return Told(lambda parts: known.get(parts, "unresolved"))

    def test_the_first_rule(self):
        told = self.tell_of({(2, 3): "fail", (0, 1): "pass"})
        rules, manys, pair = self.right(told, full(4))
        self.assertEqual((rules[0], manys[0]), (1, 2))
        self.assertEqual(told.calls[:4], [(), (0, 1, 2, 3), (0, 1), (2, 3)])
        self.assertEqual(pair, ((), (2, 3)))

    def test_the_second_rule(self):
        told = self.tell_of({(0,): "pass", (0, 1, 3): "pass"})
        rules, manys, pair = self.right(told, full(4), (0,))
        self.assertEqual((rules, manys), ([5, 2], [3, 2]))
        self.assertEqual(pair, ((0, 1, 3), (0, 1, 2, 3)))
        self.assertEqual(told.calls, [(0,), (0, 1, 2, 3), (0, 1), (0, 2, 3), (0, 2), (0, 3), (0, 1, 3)])

    def test_the_second_rule_by_two_parts(self):
        told = self.tell_of({(0, 1): "pass", (2, 3): "unresolved"})
        rules, manys, pair = self.right(told, full(4))
        self.assertEqual((rules[0], manys[0]), (2, 2))
        self.assertEqual(pair, ((0, 1), full(4)))
        self.assertEqual(told.calls, [(), full(4), (0, 1), (2, 3), (0, 1, 2), (0, 1, 3)])

    def test_the_third_rule(self):
        told = self.tell_of({(1,): "pass"})
        rules, manys, pair = self.right(told, full(4))
        self.assertEqual((rules[:2], manys[:2]), ([5, 3], [4, 3]))
        self.assertEqual(pair, ((1,), full(4)))

    def test_the_fourth_rule(self):
        told = self.tell_of({(0, 1, 3): "fail"})
        rules, manys, pair = self.right(told, full(4))
        self.assertEqual((rules[:2], manys[:2]), ([5, 4], [4, 3]))
        self.assertEqual(pair, ((), (0, 1, 3)))

    def test_the_third_rule_stands_ahead_of_the_fourth_and_the_first_of_all(self):
        rules, _, pair = self.right(self.tell_of({(3,): "pass", (0, 1, 2): "fail"}), full(4))
        self.assertEqual(rules[:2], [5, 3])
        self.assertEqual(pair[0], (3,))
        rules, _, pair = self.right(self.tell_of({(3,): "fail", (0,): "pass", (1, 2, 3): "pass"}), full(4))
        self.assertEqual(rules, [5, 1])
        self.assertEqual(pair, ((), (3,)))
        rules, _, pair = self.right(self.tell_of({(0,): "pass", (0, 1, 2): "pass", (0, 1, 3): "fail"}), full(4))
        self.assertEqual(rules, [5, 2])
        self.assertEqual(pair, ((0, 1, 2), full(4)))

    def test_n_is_at_least_two_and_twice_as_much_at_most_the_count(self):
        told = self.tell_of({})
        rules, manys, pair = self.right(told, full(4))
        self.assertEqual((rules, manys, pair), ([5], [4], ((), full(4))))
        seven = Told(lambda parts: "pass" if parts == () else "fail" if len(parts) == 7 else "unresolved")
        self.assertEqual(self.right(seven, full(7))[1], [4, 7])

    def test_p_with_all_but_one(self):
        told = Wanting((0, 1, 2))
        self.assertEqual(isolated(told.trials(), (0, 1, 2), passing=(0, 2)), ((0, 2), (0, 1, 2)))
        self.assertEqual(told.calls, [(0, 2), (0, 1, 2)])
        told = Wanting((77,))
        self.assertEqual(isolated(told.trials(), (77,)), ((), (77,)))
        self.assertEqual(told.calls, [(), (77,)])

    def test_what_is_known_is_not_called(self):
        chance = random.Random("known")
        for told, failing in drawn_tests("known", 150):
            if told.tell(()) == "pass":
                pair = isolated(told.trials(), failing)
                calls = list(told.calls)
                known = {asked: told.tell(asked) for asked in calls if chance.random() < 0.5}
                told.calls.clear()
                self.assertEqual(isolated(told.trials(known=tuple(known.items())), failing), pair)
                self.assertEqual(told.calls, [asked for asked in calls if asked not in known])


class IsolatedRefusalTests(RefusalTests):

    def test_trials(self):
        self.all_refused("trials", lambda thing: isolated(thing, (0, 1)), NO_CONFIGURATIONS + [()])
        self.all_refused("trials", lambda thing: isolated(thing, None, passing=None), things())

    def test_failing_and_passing(self):
        told = Wanting((0,))
        trials = told.trials()
        self.all_refused("failing", lambda thing: isolated(trials, thing), NO_CONFIGURATIONS)
        self.all_refused("failing", lambda thing: isolated(trials, thing, passing=thing), NO_CONFIGURATIONS)
        self.all_refused("passing", lambda thing: isolated(trials, (0, 1), passing=thing), NO_CONFIGURATIONS)
        for failing, passing in (((0, 1), (2,)), ((0, 1), (0, 1, 2)), ((), (0,)), ((1, 3), (1, 2))):
            self.refused("passing", isolated, trials, failing, passing=passing)
        self.assertEqual(told.calls, [])
        self.refused("failing", isolated, told.trials(most=0), None)
        self.refused("passing", isolated, told.trials(most=0), (1,), passing=(2,))

    def test_passing_does_not_pass(self):
        for verdict in ("fail", "unresolved"):
            told = Told(lambda parts: verdict)
            with self.assertRaises(NotSo) as caught:
                isolated(told.trials(), (1, 2, 3), passing=(2,))
            self.assertEqual((caught.exception.parts, caught.exception.verdict), ((2,), verdict))
            self.assertEqual(told.calls, [(2,)])

    def test_failing_does_not_fail(self):
        for verdict in ("pass", "unresolved"):
            told = Told(lambda parts: "pass" if parts == (2,) else verdict)
            with self.assertRaises(NotSo) as caught:
                isolated(told.trials(), (1, 2, 3), passing=(2,))
            self.assertEqual((caught.exception.parts, caught.exception.verdict), ((1, 2, 3), verdict))
            self.assertEqual(told.calls, [(2,), (1, 2, 3)])

    def test_both_the_same(self):
        with self.assertRaises(NotSo) as caught:
            isolated(Told(lambda parts: "pass").trials(), (1,), passing=(1,))
        self.assertEqual((caught.exception.parts, caught.exception.verdict), ((1,), "pass"))
        with self.assertRaises(NotSo) as caught:
            isolated(Told(lambda parts: "fail").trials(), ())
        self.assertEqual((caught.exception.parts, caught.exception.verdict), ((), "fail"))

    def test_what_ask_raises(self):
        for most in range(4):
            told = Wanting((1, 2))
            trials = told.trials(most=most)
            with self.assertRaises(Spent):
                isolated(trials, (0, 1, 2))
            self.assertEqual(len(told.calls), most)
            trials.allow(50)
            self.assertEqual(isolated(trials, (0, 1, 2)), isolated(told.trials(), (0, 1, 2)))
        for thing in NO_VERDICTS:
            with self.assertRaises(BadVerdict) as caught:
                isolated(Trials(lambda parts: thing), (1,))
            self.assertIs(caught.exception.told, thing)

    def test_amid_a_call(self):
        def test(parts):
            self.refused("passing", isolated, trials, (0,), passing=None)
            with self.assertRaises(Nested):
                isolated(trials, (0,))
            return "pass"
        trials = Trials(test, known=[((0,), "fail"), ((), "pass")])
        self.assertEqual(trials.ask((1,)), "pass")
        self.assertEqual(isolated(trials, (0,)), ((), (0,)))

    def test_stopped_anywhere_it_can_be_gone_on(self):
        for told, failing in drawn_tests("stopped", 40, most=6):
            if told.tell(()) != "pass":
                continue
            right = isolated(told.trials(), failing)
            calls = list(told.calls)
            for at, stopped in enumerate(calls):
                left = [Gone("g")]

                def tell(asked):
                    if asked == stopped and left:
                        raise left.pop()
                    return told.tell(asked)
                seen = Told(tell)
                trials = seen.trials()
                with self.assertRaises(Gone):
                    isolated(trials, failing)
                self.assertEqual([asked for asked, _ in trials.rows()], calls[:at])
                self.assertEqual(isolated(trials, failing), right)
                self.assertEqual(seen.calls, calls[:at + 1] + calls[at:])


if __name__ == "__main__":
    unittest.main()

"""CUT DOWN and QUICK [0], [3], [4], [6], [8], [9]."""

import inspect
import random
import unittest

from leastfail.cases import full
from leastfail.cutting import cut_down, quick
from leastfail.errors import BadVerdict, Gone, Nested, NotSo, Spent
from leastfail.trials import Trials
from tests.anything import NO_CONFIGURATIONS, NO_VERDICTS, things
from tests.refusals import RefusalTests
from tests.tables import Drawn, Table, Told, Wanting, drawn_tests, each_once, less, tables, way_of_cutting, within


def log_of(count):
    """The least whole number with 2 ** that at least count, or 0."""
    least = 0
    while 2 ** least < count:
        least += 1
    return least


def is_monotone(table):
    return not any(table[parts] != "fail" and table[one] == "fail" for parts in table for one in within(parts))


class CutDownTests(unittest.TestCase):

    def right(self, told, parts):
        trials = told.trials()
        end = cut_down(trials, parts)
        way, right = way_of_cutting(told.tell, parts)
        self.assertEqual(end, right)
        calls = each_once([parts] + way)
        self.assertEqual(told.calls, calls)
        self.assertEqual([asked for asked, _ in trials.rows()], calls)
        self.assertLessEqual(set(end), set(parts))
        self.assertEqual(told.tell(end), "fail")
        self.assertNotIn("fail", [told.tell(less(end, (number,))) for number in end])
        count = len(parts)
        self.assertLessEqual(len(calls), count * (count + 1) // 2 + 1)
        self.assertEqual(cut_down(trials, parts), end)
        self.assertEqual(len(told.calls), len(calls))

    def test_arguments(self):
        self.assertEqual(str(inspect.signature(cut_down)), "(trials, parts)")
        self.assertEqual(cut_down(parts=(0, 1, 2), trials=Wanting((1,)).trials()), (1,))

    def test_every_test_of_few_pieces(self):
        for count in range(4):
            for table in tables(count):
                self.right(Table(table), full(count))

    def test_drawn_tests(self):
        for told, parts in drawn_tests("cut down", 300):
            self.right(told, parts)

    def test_all_120(self):
        for wanted in ((), (0,), (119,), (0, 119), (3, 60, 61, 100)):
            self.right(Wanting(wanted), full(120))

    def test_from_the_last_to_the_first(self):
        told = Wanting((2, 40), (2, 7))
        self.assertEqual(cut_down(told.trials(), (2, 7, 40, 80)), (2, 7))
        self.assertEqual(told.calls, [(2, 7, 40, 80), (2, 7, 40), (2, 7), (2,), (7,)])

    def test_again_until_a_whole_going_leaves_none_out(self):
        fails = {(0, 1, 2), (0, 2), (2,)}
        told = Told(lambda parts: "fail" if parts in fails else "unresolved")
        self.assertEqual(cut_down(told.trials(), (0, 1, 2)), (2,))
        self.assertEqual(told.calls, [(0, 1, 2), (0, 1), (0, 2), (2,), ()])

    def test_as_often_as_it_may_be(self):
        for count in range(7):
            # Each going leaves out the first number alone, which comes last in it.
            fails = {tuple(range(low, count)) for low in range(count + 1)}
            told = Told(lambda parts: "fail" if parts in fails else "pass")
            self.assertEqual(cut_down(told.trials(), full(count)), ())
            self.assertEqual(len(told.calls), count * (count + 1) // 2 + 1)

    def test_of_none_and_of_one(self):
        for parts, wanted, calls in (((), (), [()]), ((5,), (5,), [(5,), ()]), ((5,), (), [(5,), ()])):
            told = Wanting(wanted)
            self.assertEqual(cut_down(told.trials(), parts), wanted)
            self.assertEqual(told.calls, calls)


class QuickTests(unittest.TestCase):

    def right(self, told, parts, monotone):
        trials = told.trials()
        end = quick(trials, parts)
        self.assertLessEqual(set(end), set(parts))
        self.assertEqual(end, tuple(sorted(end)))
        self.assertEqual(told.tell(end), "fail")
        self.assertEqual(len(told.calls), len(set(told.calls)))
        self.assertEqual(told.calls[0], parts)
        self.assertTrue(all(set(asked) <= set(parts) for asked in told.calls))
        if monotone:
            self.assertEqual(end, way_of_cutting(told.tell, parts)[1])
            self.assertLessEqual(len(told.calls), 2 * len(end) * log_of(len(parts)) + 2)
        many = len(told.calls)
        self.assertEqual(quick(trials, parts), end)
        self.assertEqual(len(told.calls), many)
        return end

    def test_arguments(self):
        self.assertEqual(str(inspect.signature(quick)), "(trials, parts)")
        self.assertEqual(quick(parts=(0, 1, 2), trials=Wanting((1,)).trials()), (1,))

    def test_every_test_of_few_pieces(self):
        for count in range(4):
            for table in tables(count):
                self.right(Table(table), full(count), is_monotone(table))

    def test_drawn_tests(self):
        for told, parts in drawn_tests("quick", 400):
            self.right(told, parts, isinstance(told, Wanting))

    def test_all_120(self):
        chance = random.Random("quick")
        for many in (0, 1, 1, 2, 2, 3, 5, 8, 13, 40, 90, 119, 120):
            wanted = chance.sample(range(120), many)
            self.right(Wanting(wanted), full(120), True)
        for _ in range(20):
            wanted = [chance.sample(range(120), chance.randint(1, 9)) for _ in range(chance.randint(2, 9))]
            self.right(Wanting(*wanted), full(120), True)

    def test_each_single_one_of_each_count(self):
        for count in range(1, 20):
            for number in range(count):
                self.assertEqual(self.right(Wanting((number,)), full(count), True), (number,))

    def test_of_none_one_and_two(self):
        for parts, wanted, most in (((), (), 1), ((5,), (5,), 2), ((5,), (), 2), ((5, 90), (), 2),
                                    ((5, 90), (5,), 4), ((5, 90), (90,), 4), ((5, 90), (5, 90), 6)):
            told = Wanting(wanted)
            self.assertEqual(quick(told.trials(), parts), wanted)
            self.assertLessEqual(len(told.calls), most)

    def test_whatever_is_known_ahead_it_tells_the_same(self):
        chance = random.Random("ahead")
        for told, parts in drawn_tests("ahead", 200, most=8):
            end = quick(told.trials(), parts)
            asked = list(told.calls)
            for share in (0.1, 0.5, 1):
                known = {one: told.tell(one) for one in within(parts) if chance.random() < share}
                told.calls.clear()
                self.assertEqual(quick(told.trials(known=list(known.items())), parts), end)
                self.assertEqual(told.calls, [one for one in asked if one not in known])

    def test_verdicts_that_are_no_failing_are_alike(self):
        for seed in range(60):
            told = Drawn(seed, full(7))
            other = Told(lambda parts: "fail" if told.tell(parts) == "fail" else "pass")
            self.assertEqual(quick(told.trials(), full(7)), quick(other.trials(), full(7)))


class CuttingRefusalTests(RefusalTests):

    def test_trials(self):
        for call in (cut_down, quick):
            self.all_refused("trials", lambda thing: call(thing, (0, 1)), NO_CONFIGURATIONS + [()])
            self.all_refused("trials", lambda thing: call(thing, None), things())

    def test_parts(self):
        told = Wanting(())
        trials = told.trials()
        for call in (cut_down, quick):
            self.all_refused("parts", lambda thing: call(trials, thing), NO_CONFIGURATIONS)
            self.refused("parts", call, Trials(told.test, most=0), None)
        self.assertEqual(told.calls, [])

    def test_what_does_not_fail(self):
        for verdict in ("pass", "unresolved"):
            for call in (cut_down, quick):
                told = Told(lambda parts: verdict)
                with self.assertRaises(NotSo) as caught:
                    call(told.trials(), (3, 9))
                self.assertEqual((caught.exception.parts, caught.exception.verdict), ((3, 9), verdict))
                self.assertEqual(told.calls, [(3, 9)])

    def test_what_ask_raises(self):
        for call in (cut_down, quick):
            with self.assertRaises(Spent):
                call(Wanting(()).trials(most=0), (1,))
            for thing in NO_VERDICTS:
                with self.assertRaises(BadVerdict) as caught:
                    call(Trials(lambda parts: thing if parts == () else "fail"), (1,))
                self.assertIs(caught.exception.told, thing)

    def test_amid_a_call(self):
        def test(parts):
            for call in (cut_down, quick):
                self.refused("parts", call, trials, None)
                with self.assertRaises(Nested):
                    call(trials, (0,))
            return "pass"
        trials = Trials(test, known=[((0,), "fail")])
        self.assertEqual(trials.ask((1,)), "pass")

    def test_stopped_anywhere_what_was_called_ahead_is_known_and_none_is_called_twice(self):
        for call in (cut_down, quick):
            for told, parts in drawn_tests("stopped", 30):
                right = call(told.trials(), parts)
                calls = list(told.calls)
                for at, stopped in enumerate(calls):
                    for error in (Gone("g"), LookupError("l")):
                        left = [error]

                        def tell(asked):
                            if asked == stopped and left:
                                raise left.pop()
                            return told.tell(asked)
                        seen = Told(tell)
                        trials = seen.trials()
                        with self.assertRaises(type(error)) as caught:
                            call(trials, parts)
                        self.assertIs(caught.exception, error)
                        self.assertEqual([asked for asked, _ in trials.rows()], calls[:at])
                        self.assertEqual(call(trials, parts), right)
                        self.assertEqual(seen.calls, calls[:at + 1] + calls[at:])

    def test_spent_on_the_way(self):
        for call in (cut_down, quick):
            told = Wanting((2, 5))
            trials = told.trials(most=3)
            with self.assertRaises(Spent):
                call(trials, full(9))
            self.assertEqual(len(told.calls), 3)
            trials.allow(100)
            self.assertEqual(call(trials, full(9)), (2, 5))
            self.assertEqual(len(told.calls), len(set(told.calls)))


if __name__ == "__main__":
    unittest.main()

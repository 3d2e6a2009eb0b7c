"""BOTTOMS, BREACH, MONOTONE [0], [4], [6], [15]."""

import inspect
import random
import unittest

from leastfail.errors import BadVerdict, Gone, Nested, Spent
from leastfail.small import bottoms, breach, is_monotone
from leastfail.trials import Trials
from tests.anything import NO_CONFIGURATIONS, NO_NUMBERS, NO_VERDICTS, things
from tests.refusals import RefusalTests
from tests.tables import VERDICTS, Table, Told, Wanting, configurations, less, more, tables, within

CALLS = (bottoms, breach, is_monotone)


def all_tables(count):
    """Each table of VERDICTS on so many pieces, those whose FULL one doesn't FAIL, too."""
    for table in tables(count):
        for verdict in VERDICTS:
            yield {**table, tuple(range(count)): verdict}


def right_bottoms(table):
    failing = [parts for parts in table if table[parts] == "fail"]
    return sorted([parts for parts in failing if not any(set(one) < set(parts) for one in failing)],
                  key=lambda parts: (len(parts), parts))


def right_breach(table, count):
    found = [(parts, more(parts, (number,))) for parts in table for number in range(count) if number not in parts]
    found = [(one, two) for one, two in found if table[one] == "fail" and table[two] != "fail"]
    return min(found, key=lambda pair: (len(pair[0]), *pair), default=None)


class SmallTests(unittest.TestCase):

    def right(self, table, count):
        for call, right in ((bottoms, right_bottoms(table)), (breach, right_breach(table, count)),
                            (is_monotone, right_breach(table, count) is None)):
            told = Table(table)
            trials = told.trials()
            found = call(trials, count)
            self.assertEqual(found, right)
            self.assertIs(type(found), type(right))
            self.assertEqual(len(told.calls), len(set(told.calls)))
            many = len(told.calls)
            self.assertEqual(call(trials, count), right)
            self.assertEqual(len(told.calls), many)

    def test_arguments(self):
        for call in CALLS:
            self.assertEqual(str(inspect.signature(call)), "(trials, count)")
        trials = Wanting((1,)).trials()
        self.assertEqual(bottoms(count=2, trials=trials), [(1,)])
        self.assertIsNone(breach(count=2, trials=trials))
        self.assertIs(is_monotone(count=2, trials=trials), True)

    def test_every_test_of_few_pieces(self):
        for count in range(4):
            for table in all_tables(count):
                self.right(table, count)

    def test_drawn_tests(self):
        chance = random.Random("small")
        for at in range(120):
            count = chance.randint(4, 7)
            weights = chance.choice([(1, 1, 1), (1, 9, 9), (9, 1, 1), (60, 1, 1), (1, 60, 60)])
            self.right({parts: chance.choices(VERDICTS, weights)[0] for parts in configurations(count)}, count)

    def test_drawn_monotone_tests(self):
        chance = random.Random("monotone")
        for at in range(60):
            count = chance.randint(0, 8)
            wanted = [chance.sample(range(count), chance.randint(0, count)) for _ in range(chance.randint(0, 5))]
            told = Wanting(*wanted)
            table = {parts: told.tell(parts) for parts in configurations(count)}
            self.assertIs(is_monotone(told.trials(), count), True)
            self.right(table, count)
            least = [parts for parts in table if table[parts] == "fail" and
                     "fail" not in [table[less(parts, (number,))] for number in parts]]
            self.assertEqual(bottoms(told.trials(), count), least)

    def test_of_ten(self):
        chance = random.Random("ten")
        self.right({parts: chance.choice(VERDICTS) for parts in configurations(10)}, 10)
        table = {parts: "fail" if len(parts) >= 5 else "unresolved" for parts in configurations(10)}
        self.right(table, 10)
        table[tuple(range(10))] = "unresolved"
        self.assertEqual(breach(Table(table).trials(), 10), (tuple(range(9)), tuple(range(10))))
        self.right(table, 10)

    def test_the_order_of_bottoms(self):
        told = Wanting((0, 3), (2,), (1, 3), (0, 1, 4), (4, 5))
        self.assertEqual(bottoms(told.trials(), 6), [(2,), (0, 3), (1, 3), (4, 5), (0, 1, 4)])

    def test_the_first_breach_by_b(self):
        told = Told(lambda parts: "pass" if parts in ((0, 1), (1, 2), (1, 3)) else "fail" if 1 in parts else "pass")
        self.assertEqual(breach(told.trials(), 4), ((1,), (0, 1)))
        told = Told(lambda parts: "pass" if parts in ((1, 2), (0, 2)) else "fail" if parts else "pass")
        self.assertEqual(breach(told.trials(), 3), ((0,), (0, 2)))

    def test_of_none(self):
        self.assertEqual(bottoms(Wanting(()).trials(), 0), [()])
        self.assertEqual(bottoms(Wanting((1,)).trials(), 0), [])
        self.assertIsNone(breach(Wanting(()).trials(), 0))
        self.assertIs(is_monotone(Wanting((1,)).trials(), 0), True)

    def test_only_configurations_of_count_are_called(self):
        for call in CALLS:
            told = Told(lambda parts: "fail" if len(parts) > 1 else "pass")
            call(told.trials(), 4)
            self.assertLessEqual(set(told.calls), set(within((0, 1, 2, 3))))

    def test_what_is_told_is_the_askers_own(self):
        trials = Wanting((1,)).trials()
        bottoms(trials, 3).append(None)
        self.assertEqual(bottoms(trials, 3), [(1,)])


class SmallRefusalTests(RefusalTests):

    def test_refused(self):
        told = Wanting(())
        trials = told.trials(most=0)
        for call in CALLS:
            self.all_refused("trials", lambda thing: call(thing, None), NO_CONFIGURATIONS + [()])
            self.all_refused("count", lambda thing: call(trials, thing), NO_NUMBERS + [-1, 11, 12, 10 ** 30, -10 ** 30])
        self.assertEqual(told.calls, [])

    def test_what_ask_raises(self):
        for call in CALLS:
            with self.assertRaises(Spent):
                call(Wanting(()).trials(most=0), 3)
            with self.assertRaises(Spent):
                call(Wanting((0, 1, 2)).trials(most=3), 3)
            for thing in NO_VERDICTS:
                with self.assertRaises(BadVerdict) as caught:
                    call(Trials(lambda parts: thing), 3)
                self.assertIs(caught.exception.told, thing)

    def test_stopped_they_can_be_gone_on(self):
        table = {parts: "fail" if sum(parts) % 3 == 1 else "pass" for parts in configurations(4)}
        for call in CALLS:
            whole = Table(table)
            right = call(whole.trials(), 4)
            for stopped in list(whole.calls):
                left = [Gone("g")]

                def tell(parts):
                    if parts == stopped and left:
                        raise left.pop()
                    return table[parts]
                seen = Told(tell)
                trials = seen.trials()
                with self.assertRaises(Gone):
                    call(trials, 4)
                self.assertEqual(call(trials, 4), right)
                self.assertEqual(len(seen.calls), len(set(seen.calls)) + 1)

    def test_amid_a_call(self):
        def test(parts):
            for call in CALLS:
                self.refused("count", call, trials, 11)
                with self.assertRaises(Nested):
                    call(trials, 0)
            return "pass"
        trials = Trials(test, known=[((), "fail")])
        self.assertEqual(trials.ask((5,)), "pass")
        self.all_refused("trials", lambda thing: bottoms(thing, 0), things())


if __name__ == "__main__":
    unittest.main()

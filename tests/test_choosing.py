"""BETTER [0], [3], [4], [7], [8], [66]."""

import inspect
import unittest

from leastfail.cases import full
from leastfail.choosing import better
from leastfail.cutting import cut_down, quick
from leastfail.errors import BadVerdict, NotSo, Spent
from leastfail.halving import halved
from leastfail.texttrials import TextTrials
from leastfail.trials import Trials
from tests.anything import NO_CONFIGURATIONS, NO_VERDICTS, things
from tests.refusals import RefusalTests
from tests.stops import nested_everywhere, stopped_everywhere
from tests.tables import Drawn, Table, Told, Wanting, drawn_tests, each_once, tables, way_of_cutting, way_of_halving


class BetterTests(RefusalTests):

    def right(self, told, parts):
        """What is told, and CALLED, in order, is what the document says; how the two ways differ is told."""
        trials = told.trials()
        found = better(trials, parts)
        halving, one, _ = way_of_halving(told.tell, parts)
        cutting, two = way_of_cutting(told.tell, parts)
        self.assertEqual(found, min([one, two], key=lambda end: (len(end), end)))
        self.assertEqual(told.calls, each_once([parts] + [asked for asked, _, _ in halving] + cutting))
        many = len(told.calls)
        self.assertEqual(better(trials, parts), found)
        self.assertEqual(len(told.calls), many)
        return (len(one) > len(two)) - (len(one) < len(two)), one != two

    def test_arguments(self):
        self.assertEqual(str(inspect.signature(better)), "(trials, parts)")
        self.assertEqual(better(parts=(0, 1, 2), trials=Wanting((1,)).trials()), (1,))

    def test_every_test_of_few_pieces(self):
        for count in range(4):
            for table in tables(count):
                self.right(Table(table), full(count))

    def test_drawn_tests(self):
        seen = set()
        for told, parts in drawn_tests("better", 400):
            seen.add(self.right(told, parts))
        # HALVED has fewer, CUT DOWN has fewer, both have as many, alike and unlike.
        self.assertEqual(seen, {(-1, True), (1, True), (0, True), (0, False)})

    def ways(self, count, *wanted):
        """What HALVED, CUT DOWN and BETTER tell where these CONFIGURATIONS are wanted."""
        told = Wanting(*wanted)
        return tuple(way(told.trials(), full(count)) for way in (halved, cut_down, better))

    def test_which_one_is_told(self):
        self.assertEqual(self.ways(3, (0, 1), (2,)), ((2,), (0, 1), (2,)))
        self.assertEqual(self.ways(4, (0, 2), (1, 2, 3)), ((1, 2, 3), (0, 2), (0, 2)))
        self.assertEqual(self.ways(6, (0, 1, 4), (0, 2, 3)), ((0, 1, 4), (0, 2, 3), (0, 1, 4)))
        self.assertEqual(self.ways(3, (0, 1), (0, 2)), ((0, 2), (0, 1), (0, 1)))
        self.assertEqual(self.ways(3, (1,)), ((1,), (1,), (1,)))
        self.assertEqual(self.ways(0, ()), ((), (), ()))

    def test_where_there_is_one_least_one_alone_all_ways_tell_it(self):
        for count in range(1, 12):
            for wanted in ((), (0,), (count - 1,), tuple(range(0, count, 2)), full(count)):
                for way in (halved, cut_down, quick, better):
                    self.assertEqual(way(Wanting(wanted).trials(), full(count)), wanted)

    def test_stopped_anywhere(self):
        for seed in range(10):
            tell = Drawn(seed, full(6), (1, 2, 2)).tell
            stopped_everywhere(self, Trials, tell, lambda trials: better(trials, full(6)))

    def test_amid_a_call(self):
        trials, seen = nested_everywhere(self, Trials, Wanting((1,)).tell, [lambda trials: better(trials, full(3))])
        self.assertEqual((trials.ask((9,)), seen), ("pass", [(9,)]))

    def test_refused(self):
        told = Wanting(())
        no_trials = NO_CONFIGURATIONS + [(), TextTrials(told.test), told.test]
        self.all_refused("trials", lambda thing: better(thing, (0, 1)), no_trials)
        self.all_refused("trials", lambda thing: better(thing, None), things())
        self.all_refused("parts", lambda thing: better(told.trials(most=0), thing), NO_CONFIGURATIONS)
        self.assertEqual(told.calls, [])
        with self.assertRaises(Spent):
            better(told.trials(most=0), (0,))
        for thing in NO_VERDICTS:
            with self.assertRaises(BadVerdict) as caught:
                better(Trials(lambda parts: thing), (1,))
            self.assertIs(caught.exception.told, thing)

    def test_what_does_not_fail(self):
        for verdict in ("pass", "unresolved"):
            told = Told(lambda parts: verdict)
            with self.assertRaises(NotSo) as caught:
                better(told.trials(), (3, 9))
            self.assertEqual((caught.exception.parts, caught.exception.verdict), ((3, 9), verdict))
            self.assertEqual(told.calls, [(3, 9)])


if __name__ == "__main__":
    unittest.main()

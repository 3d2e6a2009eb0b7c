"""CLOSED DOWN and PAPERS of that [0], [3], [4], [6], [8], [13], [60], [61]."""

import inspect
import random
import unittest

from leastfail.cases import full
from leastfail.closing import check_closed, closed_down, closed_paper
from leastfail.cutting import cut_down
from leastfail.errors import NotSo, Spent
from leastfail.links import closure, is_closed
from leastfail.papers import check_least, least_paper
from leastfail.texttrials import TextTrials
from leastfail.trials import Trials
from tests.anything import NO_CONFIGURATIONS, NO_ROWS, deep_list, deep_tuple, shared_tuple, things
from tests.otherwise import STRANGE, is_same, others
from tests.refusals import RefusalTests
from tests.stops import nested_everywhere, stopped_everywhere
from tests.tables import (VERDICTS, Drawn, Table, Told, Wanting, configurations, drawn_tests, each_once, less, tables,
                          way_of_cutting, within)
from tests.test_links import ALL, CHAIN, NO_LINKS, RING, drawn_links, hanging


def falls(links, parts):
    """The FALL of each number."""
    pairs = hanging(links)
    return {number: (number, *[one for one, two in pairs if two == number]) for number in parts}


def way_of_closing(links, tell, parts):
    """What is ASKED behind C itself, and what is told."""
    told = falls(links, parts)
    way, going = [], True
    while going:
        going = False
        for number in sorted(parts, reverse=True):
            if number in parts:
                left = less(parts, told[number])
                way.append(left)
                if tell(left) == "fail":
                    parts, going = left, True
    return way, parts


def closed_ones(links, count):
    return [parts for parts in configurations(count) if closure(links, parts) == parts]


def papers_of(links, table):
    """The PAPERS of all LEAST CLOSED CONFIGURATIONS of a table, by CONFIGURATION, None of the other CLOSED ones."""
    told = {}
    for parts in table:
        if closure(links, parts) == parts:
            left = falls(links, parts)
            verdicts = tuple((number, table[less(parts, left[number])]) for number in parts)
            least = table[parts] == "fail" and "fail" not in [verdict for _, verdict in verdicts]
            told[parts] = (parts, verdicts) if least else None
    return told


class InterfaceTests(unittest.TestCase):

    def test_arguments(self):
        for call, signature in ((closed_down, "(trials, links, parts)"), (closed_paper, "(trials, links, parts)"),
                                (check_closed, "(links, rows, paper)")):
            self.assertEqual(str(inspect.signature(call)), signature)

    def test_by_name(self):
        trials = Wanting((1,)).trials()
        self.assertEqual(closed_down(parts=(0, 1, 2), links=((1, 0),), trials=trials), (0, 1))
        paper = closed_paper(parts=(0, 1), links=((1, 0),), trials=trials)
        self.assertEqual(paper, ((0, 1), ((0, "pass"), (1, "pass"))))
        self.assertIs(check_closed(paper=paper, rows=trials.rows(), links=((1, 0),)), True)


class ClosedDownTests(unittest.TestCase):

    def right(self, links, told, parts):
        trials = told.trials()
        end = closed_down(trials, links, parts)
        way, right = way_of_closing(links, told.tell, parts)
        self.assertEqual(end, right)
        calls = each_once([parts] + way)
        self.assertEqual(told.calls, calls)
        self.assertEqual(trials.rows(), [(asked, told.tell(asked)) for asked in calls])
        self.assertTrue(all(is_closed(links, asked) for asked in calls))
        self.assertEqual(told.tell(end), "fail")
        left = falls(links, end)
        self.assertNotIn("fail", [told.tell(less(end, left[number])) for number in end])
        self.assertEqual(closed_down(trials, links, parts), end)
        self.assertEqual(len(told.calls), len(calls))
        return end

    def test_every_test_of_few_pieces(self):
        chance = random.Random("few")
        for count in range(4):
            for table in tables(count):
                for links in ((), drawn_links(chance, count, 3)):
                    self.right(links, Table(table), full(count))

    def test_drawn_tests(self):
        chance = random.Random("drawn")
        for at in range(300):
            count = chance.randint(0, 10)
            links = drawn_links(chance, count, chance.choice((2, 5, 12)))
            parts = chance.choice(closed_ones(links, min(count, 6)))
            self.right(links, Drawn(at, parts, chance.choice([(1, 1, 1), (1, 5, 5), (5, 1, 1)])), parts)
            self.right(links, Drawn(at, full(count), chance.choice([(1, 1, 1), (1, 5, 5), (5, 1, 1)])), full(count))

    def test_of_a_monotone_test_nothing_closed_within_it_fails_but_itself(self):
        chance = random.Random("monotone")
        for _ in range(200):
            links = drawn_links(chance, 8, 9)
            told = Wanting(*[chance.sample(range(8), chance.randint(0, 4)) for _ in range(3)])
            end = self.right(links, told, full(8))
            inner = [parts for parts in within(end) if closure(links, parts) == parts and told.tell(parts) == "fail"]
            self.assertEqual(inner, [end])

    def test_without_links_it_is_cut_down(self):
        for told, parts in drawn_tests("no links", 200):
            right = cut_down(told.trials(), parts)
            calls = list(told.calls)
            told.calls.clear()
            self.assertEqual(closed_down(told.trials(), (), parts), right)
            self.assertEqual(told.calls, calls)
            self.assertEqual(right, way_of_cutting(told.tell, parts)[1])

    def test_numbers_that_are_gone_are_not_gone_through(self):
        told = Wanting((3,))
        self.assertEqual(closed_down(told.trials(), ((1, 0), (2, 0)), full(4)), (3,))
        self.assertEqual(told.calls, [(0, 1, 2, 3), (0, 1, 2), (0, 1, 3), (0, 3), (3,), ()])
        told = Told(lambda parts: "fail" if parts in ((0, 1, 2, 3), (2, 3)) else "pass")
        self.assertEqual(closed_down(told.trials(), ((0, 1),), full(4)), (2, 3))
        # 0 hangs on 1, and is gone with it.
        self.assertEqual(told.calls, [(0, 1, 2, 3), (0, 1, 2), (0, 1, 3), (2, 3), (2,), (3,)])

    def test_again_until_a_whole_going_takes_none(self):
        fails = {(0, 1, 2), (0, 2), (2,)}
        told = Told(lambda parts: "fail" if parts in fails else "unresolved")
        self.assertEqual(closed_down(told.trials(), (), (0, 1, 2)), (2,))
        self.assertEqual(told.calls, [(0, 1, 2), (0, 1), (0, 2), (2,), ()])

    def test_rings_chains_and_all_links(self):
        self.right(RING, Wanting((0, 3)), full(5))
        self.right(RING, Wanting(()), full(3))
        self.right(ALL, Wanting((4,)), full(120))
        self.right(ALL, Wanting(()), full(120))
        for number in (0, 60, 119):
            self.assertEqual(closed_down(Wanting((number,)).trials(), CHAIN, full(120)), tuple(range(number + 1)))

    def test_of_none(self):
        told = Wanting(())
        self.assertEqual(closed_down(told.trials(), RING, ()), ())
        self.assertEqual(told.calls, [()])

    def test_links_of_numbers_that_are_not_there(self):
        self.assertEqual(self.right(((7, 8), (9, 1)), Wanting((1,)), (1, 2)), (1,))


class TrialsTests(RefusalTests):

    def samples(self):
        chance = random.Random("stops")
        for at in range(12):
            links = drawn_links(chance, 6, 5)
            yield links, full(6), Drawn(at, full(6), (1, 3, 3)).tell
            yield links, full(6), Wanting(chance.sample(range(6), 2)).tell

    def test_stopped_anywhere(self):
        for links, parts, tell in self.samples():
            stopped_everywhere(self, Trials, tell, lambda trials: closed_down(trials, links, parts))
            stopped_everywhere(self, Trials, tell, lambda trials: closed_paper(trials, links, parts))
            stopped_everywhere(self, Trials, tell,
                               lambda trials: closed_paper(trials, links, closed_down(trials, links, parts)))

    def test_amid_a_call(self):
        runs = [lambda trials: closed_down(trials, RING, full(4)), lambda trials: closed_paper(trials, RING, full(4))]
        trials, seen = nested_everywhere(self, Trials, Wanting((3,)).tell, runs)
        self.assertEqual(trials.ask((9,)), "pass")
        self.assertEqual(seen, [(9,)])

    def test_what_is_known_is_not_called(self):
        chance = random.Random("known")
        for links, parts, tell in self.samples():
            told = Told(tell)
            end = closed_down(told.trials(), links, parts)
            calls = list(told.calls)
            known = [(asked, tell(asked)) for asked in calls if chance.random() < 0.5]
            told.calls.clear()
            self.assertEqual(closed_down(told.trials(known=known), links, parts), end)
            self.assertEqual(told.calls, [asked for asked in calls if asked not in dict(known)])

    def test_what_does_not_fail(self):
        for verdict in ("pass", "unresolved"):
            told = Told(lambda parts: verdict)
            trials = told.trials()
            with self.assertRaises(NotSo) as caught:
                closed_down(trials, RING, (0, 1, 2))
            self.assertEqual((caught.exception.parts, caught.exception.verdict), ((0, 1, 2), verdict))
            self.assertEqual(told.calls, [(0, 1, 2)])

    def test_refused(self):
        told = Wanting(())
        trials = told.trials(most=0)
        for call in (closed_down, closed_paper):
            no_trials = NO_CONFIGURATIONS + [(), TextTrials(told.test), told.test]
            self.all_refused("trials", lambda thing: call(thing, (), ()), no_trials)
            self.all_refused("trials", lambda thing: call(thing, None, None), no_trials)
            self.all_refused("links", lambda thing: call(trials, thing, ()), NO_LINKS)
            self.all_refused("links", lambda thing: call(trials, thing, None), NO_LINKS)
            self.all_refused("parts", lambda thing: call(trials, RING, thing), NO_CONFIGURATIONS)
            for parts in ((0,), (0, 1), (2,), (1, 2, 3), (0, 119)):
                self.refused("parts", call, trials, RING, parts)
            for parts in ((1,), (119,), full(120)[1:]):
                self.refused("parts", call, trials, CHAIN, parts)
            with self.assertRaises(Spent):
                call(trials, RING, (0, 1, 2))
        self.assertEqual(told.calls, [])


class PaperTests(RefusalTests):

    def samples(self):
        """LINKS and tables of three pieces, by chance."""
        chance = random.Random("papers")
        for at, table in enumerate(tables(3)):
            if at % 30 == 0:
                yield drawn_links(chance, 3, 3), table

    def test_of_whatever_closed_ones(self):
        for links, table in self.samples():
            for parts, paper in papers_of(links, table).items():
                told = Table(table)
                trials = told.trials()
                self.assertEqual(closed_paper(trials, links, parts), paper)
                self.assertEqual(told.calls[0], parts)
                self.assertEqual(len(told.calls), len(set(told.calls)))
                self.assertTrue(all(is_closed(links, asked) for asked in told.calls))
                if table[parts] != "fail":
                    self.assertEqual(told.calls, [parts])
                if paper is not None:
                    self.assertIs(check_closed(links, trials.rows(), paper), True)

    def test_what_is_closed_down_has_a_paper_by_what_is_known(self):
        chance = random.Random("down")
        for at in range(150):
            links = drawn_links(chance, 9, 8)
            told = Drawn(at, full(9), (1, 2, 2))
            trials = told.trials()
            end = closed_down(trials, links, full(9))
            many = len(told.calls)
            paper = closed_paper(trials, links, end)
            self.assertEqual(len(told.calls), many)
            self.assertEqual(paper[0], end)
            self.assertIs(check_closed(links, trials.rows(), paper), True)
            self.assertIs(check_closed(links, tuple(trials.known_rows()), paper), True)

    def test_without_links_they_are_those_of_least_ones(self):
        for told, parts in drawn_tests("least", 100):
            trials = told.trials()
            for one in (parts, cut_down(trials, parts)):
                paper = least_paper(trials, one)
                self.assertEqual(closed_paper(trials, (), one), paper)
                self.assertIs(check_closed((), trials.rows(), paper), check_least(trials.rows(), paper))

    def test_of_the_empty_one_and_of_all_120(self):
        self.assertEqual(closed_paper(Wanting(()).trials(), RING, ()), ((), ()))
        self.assertIsNone(closed_paper(Wanting((1,)).trials(), RING, ()))
        trials = Wanting(full(120)).trials()
        paper = closed_paper(trials, ALL, full(120))
        self.assertEqual(paper, (full(120), tuple((number, "pass") for number in range(120))))
        self.assertEqual(len(trials), 2)
        self.assertIs(check_closed(ALL, trials.rows(), paper), True)

    def test_with_one_thing_otherwise(self):
        for links, table in self.samples():
            rows = list(table.items())
            for parts, paper in papers_of(links, table).items():
                if paper is not None:
                    for told in (rows, tuple(rows), rows[::-1], rows + [((50, 60), "fail")]):
                        self.assertIs(check_closed(links, told, paper), True)
                    for other in others(paper):
                        if not is_same(other, paper):
                            self.assertIs(check_closed(links, rows, other), False)

    def test_rows_that_lack_or_tell_otherwise(self):
        for links, table in self.samples():
            rows = list(table.items())
            for parts, paper in papers_of(links, table).items():
                if paper is None:
                    continue
                left = falls(links, parts)
                needed = {parts, *[less(parts, left[number]) for number in parts]}
                for at, (asked, verdict) in enumerate(rows):
                    self.assertIs(check_closed(links, rows[:at] + rows[at + 1:], paper), asked not in needed)
                    for other in VERDICTS:
                        told = rows[:at] + [(asked, other)] + rows[at + 1:]
                        self.assertIs(check_closed(links, told, paper), other == verdict or asked not in needed)

    def test_true_rows_of_what_is_not_least_closed(self):
        for links, table in self.samples():
            found = papers_of(links, table)
            for parts in table:
                left = falls(links, parts)
                told = (parts, tuple((number, table[less(parts, left[number])]) for number in parts))
                self.assertIs(check_closed(links, list(table.items()), told), found.get(parts) is not None)

    def test_a_configuration_that_is_not_closed(self):
        rows = [((0,), "fail"), ((), "pass"), ((0, 1), "fail"), ((1,), "pass")]
        self.assertIs(check_closed((), rows, ((0,), ((0, "pass"),))), True)
        self.assertIs(check_closed(((0, 1),), rows, ((0,), ((0, "pass"),))), False)
        self.assertIs(check_closed(((0, 1),), rows, ((0, 1), ((0, "pass"), (1, "pass")))), True)

    def test_where_a_verdict_lacks_none_is_no_verdict(self):
        self.assertIs(check_closed((), [((0,), "fail")], ((0,), ((0, None),))), False)

    def test_of_anything(self):
        rows = [((), "pass"), ((0,), "fail"), ((0, 1), "fail"), ((1,), "unresolved")]
        right = ((0,), ((0, "pass"),))
        for links in ((), ((1, 0),)):
            self.assertIs(check_closed(links, rows, right), True)
            for at, thing in enumerate(things() + STRANGE):
                with self.subTest(at=at):
                    for paper in (thing, (thing, ()), ((0,), thing), ((0,), (thing,)), ((0,), ((thing, "pass"),)),
                                  ((0,), ((0, thing),)), (thing, thing), [thing], (thing, ((0, "pass"),))):
                        self.assertIs(check_closed(links, rows, paper), is_same(paper, right))

    def test_refused(self):
        for paper in (((), ()), None, deep_tuple(), deep_list(), shared_tuple()):
            self.all_refused("links", lambda thing: check_closed(thing, None, paper), NO_LINKS)
            self.all_refused("rows", lambda thing: check_closed(RING, thing, paper), NO_ROWS + things())
            for rows in ([], ()):
                self.assertIs(check_closed(RING, rows, paper), False)

    def test_nothing_is_changed(self):
        rows = [((), "pass"), ((0,), "fail")]
        self.assertIs(check_closed((), rows, ((0,), ((0, "pass"),))), True)
        self.assertEqual(rows, [((), "pass"), ((0,), "fail")])


if __name__ == "__main__":
    unittest.main()

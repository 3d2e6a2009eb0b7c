"""PAPERS of LEAST CONFIGURATIONS and of ISOLATED pairs [0], [3], [4], [13], [15]."""

import inspect
import random
import unittest

from leastfail.cases import full
from leastfail.cutting import cut_down
from leastfail.errors import BadVerdict, Gone, Nested, Spent
from leastfail.halving import halved
from leastfail.isolating import isolated
from leastfail.papers import check_isolated, check_least, isolated_paper, least_paper
from leastfail.trials import Trials
from tests.anything import NO_CONFIGURATIONS, NO_ROWS, NO_VERDICTS, deep_tuple, things
from tests.otherwise import STRANGE, is_same, others
from tests.refusals import RefusalTests
from tests.tables import VERDICTS, Table, Told, Wanting, drawn_tests, less, more, tables, within


def papers_of(table):
    """The PAPERS of all LEAST CONFIGURATIONS of a table, by CONFIGURATION, None of the others."""
    told = {}
    for parts in table:
        verdicts = tuple((number, table[less(parts, (number,))]) for number in parts)
        least = table[parts] == "fail" and "fail" not in [verdict for _, verdict in verdicts]
        told[parts] = (parts, verdicts) if least else None
    return told


def pair_papers_of(table):
    """The PAPERS of all ISOLATED pairs of a table, by pair, None of the others."""
    told = {}
    for failing in table:
        for passing in table:
            numbers = less(failing, passing)
            verdicts = tuple((number, table[more(passing, (number,))], table[less(failing, (number,))])
                             for number in numbers if set(passing) <= set(failing))
            right = table[passing] == "pass" and table[failing] == "fail" and set(passing) < set(failing)
            near = len(numbers) == 1 or all(row[1:] == ("unresolved", "unresolved") for row in verdicts)
            told[passing, failing] = (passing, failing, verdicts) if right and near else None
    return told


class InterfaceTests(unittest.TestCase):

    def test_arguments(self):
        for call, signature in ((least_paper, "(trials, parts)"), (isolated_paper, "(trials, passing, failing)"),
                                (check_least, "(rows, paper)"), (check_isolated, "(rows, paper)")):
            self.assertEqual(str(inspect.signature(call)), signature)

    def test_by_name(self):
        trials = Wanting((1,)).trials()
        paper = least_paper(parts=(1,), trials=trials)
        self.assertEqual(paper, ((1,), ((1, "pass"),)))
        self.assertIs(check_least(paper=paper, rows=trials.rows()), True)
        paper = isolated_paper(failing=(1,), passing=(), trials=trials)
        self.assertEqual(paper, ((), (1,), ((1, "fail", "pass"),)))
        self.assertIs(check_isolated(paper=paper, rows=trials.rows()), True)


class LeastPaperTests(RefusalTests):

    def test_every_test_of_few_pieces(self):
        for count in range(4):
            for table in tables(count):
                for parts, paper in papers_of(table).items():
                    told = Table(table)
                    trials = told.trials()
                    self.assertEqual(least_paper(trials, parts), paper)
                    self.assertEqual(told.calls[0], parts)
                    self.assertEqual(len(told.calls), len(set(told.calls)))
                    self.assertLessEqual(set(told.calls), {parts, *[less(parts, (number,)) for number in parts]})
                    if table[parts] != "fail":
                        self.assertEqual(told.calls, [parts])
                    if paper is not None:
                        self.assertIs(check_least(trials.rows(), paper), True)

    def test_of_what_reducers_tell(self):
        for told, parts in drawn_tests("papers", 200):
            trials = told.trials()
            end = halved(trials, parts)
            paper = least_paper(trials, end)
            self.assertEqual(paper, (end, tuple((number, told.tell(less(end, (number,)))) for number in end)))
            self.assertIs(check_least(trials.rows(), paper), True)
            self.assertIs(check_least(tuple(trials.known_rows()), paper), True)
            self.assertEqual(len(told.calls), len(set(told.calls)))

    def test_what_is_known_is_not_called(self):
        told = Wanting((0, 2, 119))
        trials = told.trials()
        end = cut_down(trials, (0, 1, 2, 119))
        many = len(told.calls)
        self.assertEqual(least_paper(trials, end), ((0, 2, 119), ((0, "pass"), (2, "pass"), (119, "pass"))))
        self.assertEqual(len(told.calls), many)

    def test_of_the_empty_one(self):
        self.assertEqual(least_paper(Wanting(()).trials(), ()), ((), ()))
        self.assertIsNone(least_paper(Wanting((1,)).trials(), ()))

    def test_of_all_120(self):
        told = Wanting(full(120))
        trials = told.trials()
        paper = least_paper(trials, full(120))
        self.assertEqual(paper, (full(120), tuple((number, "pass") for number in range(120))))
        self.assertIs(check_least(trials.rows(), paper), True)
        self.assertIsNone(least_paper(Wanting(()).trials(), full(120)))

    def test_refused(self):
        told = Wanting(())
        self.all_refused("trials", lambda thing: least_paper(thing, None), NO_CONFIGURATIONS + [()])
        self.all_refused("parts", lambda thing: least_paper(told.trials(most=0), thing), NO_CONFIGURATIONS)
        self.assertEqual(told.calls, [])

    def test_what_ask_raises(self):
        for most in range(3):
            with self.assertRaises(Spent):
                least_paper(Wanting((0, 1)).trials(most=most), (0, 1))
        for stopped in ((0, 1), (0,), (1,)):
            def test(parts):
                if parts == stopped:
                    raise Gone("g")
                return "fail" if parts == (0, 1) else "pass"
            with self.assertRaises(Gone):
                least_paper(Trials(test), (0, 1))
        for thing in NO_VERDICTS:
            with self.assertRaises(BadVerdict) as caught:
                least_paper(Trials(lambda parts: thing), (1,))
            self.assertIs(caught.exception.told, thing)

    def test_amid_a_call(self):
        def test(parts):
            with self.assertRaises(Nested):
                least_paper(trials, ())
            with self.assertRaises(Nested):
                isolated_paper(trials, (), (0,))
            return "pass"
        trials = Trials(test, known=[((), "fail"), ((0,), "fail")])
        self.assertEqual(trials.ask((5,)), "pass")


class IsolatedPaperTests(RefusalTests):

    def test_every_test_of_few_pieces(self):
        for count in range(3):
            for table in tables(count):
                self.right(table)
        for at, table in enumerate(tables(3)):
            if at % 7 == 0:
                self.right(table)

    def right(self, table):
        for (passing, failing), paper in pair_papers_of(table).items():
            told = Table(table)
            trials = told.trials()
            self.assertEqual(isolated_paper(trials, passing, failing), paper)
            self.assertEqual(len(told.calls), len(set(told.calls)))
            if table[failing] != "fail":
                self.assertLessEqual(set(told.calls), {failing})
            if table[passing] != "pass":
                self.assertLessEqual(set(told.calls), {failing, passing})
            if paper is not None:
                self.assertIs(check_isolated(trials.rows(), paper), True)

    def test_of_what_isolated_tells(self):
        for told, parts in drawn_tests("pairs", 300):
            if told.tell(()) == "pass":
                trials = told.trials()
                passing, failing = isolated(trials, parts)
                paper = isolated_paper(trials, passing, failing)
                self.assertEqual(paper[:2], (passing, failing))
                self.assertEqual([row[0] for row in paper[2]], sorted(set(failing) - set(passing)))
                self.assertIs(check_isolated(trials.rows(), paper), True)
                self.assertIs(check_isolated(tuple(trials.known_rows()), paper), True)
                self.assertEqual(len(told.calls), len(set(told.calls)))

    def test_of_what_is_not_within(self):
        trials = Told(lambda parts: "pass" if 2 in parts else "fail").trials()
        for passing, failing in (((2,), (0,)), ((2, 3), (3,)), ((0, 1, 2), (0, 1))):
            self.assertIsNone(isolated_paper(trials, passing, failing))

    def test_refused(self):
        told = Wanting(())
        trials = told.trials(most=0)
        self.all_refused("trials", lambda thing: isolated_paper(thing, None, None), NO_CONFIGURATIONS + [()])
        self.all_refused("passing", lambda thing: isolated_paper(trials, thing, thing), NO_CONFIGURATIONS)
        self.all_refused("failing", lambda thing: isolated_paper(trials, (), thing), NO_CONFIGURATIONS)
        self.assertEqual(told.calls, [])

    def test_what_ask_raises(self):
        def tell(parts):
            return "pass" if parts == () else "fail" if parts == (0, 1, 2) else "unresolved"
        whole = Told(tell)
        self.assertIsNotNone(isolated_paper(whole.trials(), (), (0, 1, 2)))
        self.assertEqual(set(whole.calls), set(within((0, 1, 2))))
        for most in range(8):
            with self.assertRaises(Spent):
                isolated_paper(Trials(tell, most=most), (), (0, 1, 2))
        for stopped in whole.calls:
            def test(parts):
                if parts == stopped:
                    raise Gone("g")
                return tell(parts)
            with self.assertRaises(Gone):
                isolated_paper(Trials(test), (), (0, 1, 2))
        for thing in NO_VERDICTS:
            with self.assertRaises(BadVerdict) as caught:
                isolated_paper(Trials(lambda parts: thing), (), (1,))
            self.assertIs(caught.exception.told, thing)


class CheckTests(RefusalTests):

    def otherwise(self, check, rows, paper):
        """The PAPER comes out by the ROWS; with one thing otherwise it doesn't, nor by other ROWS."""
        for told in (rows, tuple(rows), rows[::-1], rows + [((50, 60), "fail")]):
            self.assertIs(check(told, paper), True)
        for other in others(paper):
            if not is_same(other, paper):
                self.assertIs(check(rows, other), False)

    def needs(self, check, rows, paper, needed):
        """Without one of the ROWS needed, or where it tells otherwise, the PAPER doesn't come out."""
        for at, (parts, verdict) in enumerate(rows):
            if parts in needed:
                self.assertIs(check(rows[:at] + rows[at + 1:], paper), False)
                for other in VERDICTS:
                    if other != verdict:
                        self.assertIs(check(rows[:at] + [(parts, other)] + rows[at + 1:], paper), False)
            else:
                self.assertIs(check(rows[:at] + rows[at + 1:], paper), True)

    def test_papers_of_least_ones(self):
        chance = random.Random("least")
        for at, table in enumerate(tables(3)):
            if at % 40 == 0:
                for parts, paper in papers_of(table).items():
                    if paper is not None:
                        rows = chance.sample(list(table.items()), 8)
                        self.otherwise(check_least, rows, paper)
                        self.needs(check_least, rows, paper, {parts, *[less(parts, (one,)) for one in parts]})

    def test_papers_of_pairs(self):
        chance = random.Random("pairs")
        for at, table in enumerate(tables(3)):
            if at % 60 == 0:
                for (passing, failing), paper in pair_papers_of(table).items():
                    if paper is not None:
                        rows = chance.sample(list(table.items()), 8)
                        self.otherwise(check_isolated, rows, paper)
                        numbers = less(failing, passing)
                        needed = {passing, failing, *[more(passing, (one,)) for one in numbers],
                                  *[less(failing, (one,)) for one in numbers]}
                        self.needs(check_isolated, rows, paper, needed)

    def test_pairs_all_unresolved(self):
        table = {parts: "unresolved" for parts in within((0, 1, 2))}
        table[()], table[0, 1, 2] = "pass", "fail"
        paper = pair_papers_of(table)[(), (0, 1, 2)]
        self.assertEqual(len(paper[2]), 3)
        self.otherwise(check_isolated, list(table.items()), paper)
        self.needs(check_isolated, list(table.items()), paper, set(table))

    def test_true_rows_of_what_is_not_least(self):
        for table in list(tables(2)):
            rows = list(table.items())
            for parts, paper in papers_of(table).items():
                told = (parts, tuple((number, table[less(parts, (number,))]) for number in parts))
                self.assertIs(check_least(rows, told), paper is not None)

    def test_true_rows_of_what_is_not_isolated(self):
        for at, table in enumerate(tables(3)):
            if at % 20 == 0:
                rows = list(table.items())
                for (passing, failing), paper in pair_papers_of(table).items():
                    told = (passing, failing, tuple(
                        (number, table[more(passing, (number,))], table[less(failing, (number,))])
                        for number in less(failing, passing)))
                    self.assertIs(check_isolated(rows, told), paper is not None)

    def test_the_empty_one(self):
        self.assertIs(check_least([((), "fail")], ((), ())), True)
        for rows in ([], [((), "pass")], [((), "unresolved")], [((0,), "fail")]):
            self.assertIs(check_least(rows, ((), ())), False)
        self.assertIs(check_isolated([((), "fail")], ((), (), ())), False)
        self.assertIs(check_isolated([((), "pass")], ((), (), ())), False)
        self.assertIs(check_isolated([], ((), (), ())), False)

    def test_where_a_verdict_lacks_none_is_no_verdict(self):
        self.assertIs(check_least([((0,), "fail")], ((0,), ((0, None),))), False)
        rows = [((), "pass"), ((0, 1), "fail")]
        self.assertIs(check_isolated(rows, ((), (0, 1), ((0, None, None), (1, None, None)))), False)

    def test_of_anything(self):
        rows = [((), "pass"), ((0,), "fail"), ((0, 1), "fail"), ((1,), "unresolved")]
        least = ((0,), ((0, "pass"),))
        pair = ((), (0,), ((0, "fail", "pass"),))
        self.assertIs(check_least(rows, least), True)
        self.assertIs(check_isolated(rows, pair), True)
        for at, thing in enumerate(things() + STRANGE):
            with self.subTest(at=at):
                for paper in (thing, (thing, ()), ((0,), thing), ((0,), (thing,)), ((0,), ((thing, "pass"),)),
                              ((0,), ((0, thing),)), (thing, thing), [thing], (thing, ((0, "pass"),))):
                    self.assertIs(check_least(rows, paper), is_same(paper, least))
                for paper in (thing, (thing, (0,), ()), ((), thing, ()), ((), (0,), thing), ((), (0,), (thing,)),
                              ((), (0,), ((thing, "fail", "pass"),)), ((), (0,), ((0, "fail", thing),)),
                              ((), (0,), ((0, thing, "pass"),)), (thing, thing, thing),
                              (thing, (0,), ((0, "fail", "pass"),)), ((), thing, ((0, "fail", "pass"),))):
                    self.assertIs(check_isolated(rows, paper), is_same(paper, pair))

    def test_rows(self):
        for check in (check_least, check_isolated):
            self.all_refused("rows", lambda thing: check(thing, ((), ())), NO_ROWS + things())
            self.all_refused("rows", lambda thing: check(thing, deep_tuple()), NO_ROWS)
            for rows in ([], ()):
                self.assertIs(check(rows, None), False)

    def test_nothing_is_changed(self):
        rows = [((), "pass"), ((0,), "fail")]
        check_least(rows, ((0,), ((0, "pass"),)))
        check_isolated(rows, ((), (0,), ((0, "fail", "pass"),)))
        self.assertEqual(rows, [((), "pass"), ((0,), "fail")])


if __name__ == "__main__":
    unittest.main()

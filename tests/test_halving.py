"""HALVED at once and by and by [0], [3], [4], [6], [7], [9], [11]."""

import inspect
import random
import unittest

from leastfail.cases import full
from leastfail.errors import BadValue, BadVerdict, Gone, Nested, NotSo, Spent
from leastfail.halving import Halving, halved
from leastfail.trials import Trials
from tests.anything import NO_CONFIGURATIONS, NO_NUMBERS, NO_VERDICTS, things
from tests.refusals import RefusalTests
from tests.tables import Drawn, Table, Told, Wanting, drawn_tests, each_once, less, tables, way_of_halving

NO_CALLS = NO_NUMBERS + [-1, -5, 10 ** 6 + 1, 10 ** 7, 10 ** 30, -10 ** 30]


def right_calls(told, parts):
    """What is CALLED, in order, and what is told, by the document."""
    way, end, _ = way_of_halving(told.tell, parts)
    return each_once([parts] + [asked for asked, _, _ in way]), end


class InterfaceTests(unittest.TestCase):

    def test_arguments_defaults_and_stars(self):
        told = {
            halved: "(trials, parts)",
            Halving: "(trials, parts)",
            Halving.go: "(self, *, calls=1)",
            Halving.is_over: "(self)",
            Halving.stands: "(self)",
            Halving.many: "(self)",
        }
        for thing, signature in told.items():
            self.assertEqual(str(inspect.signature(thing)), signature)
        for name in ("__init__", "go", "is_over", "stands", "many"):
            self.assertIn(name, vars(Halving))

    def test_by_name(self):
        told = Wanting((1,))
        self.assertEqual(halved(parts=(0, 1, 2), trials=told.trials()), (1,))
        halving = Halving(parts=(0, 1, 2), trials=told.trials())
        self.assertIs(halving.go(calls=100), True)
        self.assertEqual(halving.stands(), (1,))

    def test_calls_are_handed_in_by_name(self):
        halving = Halving(Wanting((1,)).trials(), (0, 1, 2))
        with self.assertRaises(TypeError):
            halving.go(1)


class HalvedTests(unittest.TestCase):

    def right(self, told, parts):
        trials = told.trials()
        end = halved(trials, parts)
        calls, right = right_calls(told, parts)
        self.assertEqual(end, right)
        self.assertEqual(told.calls, calls)
        self.assertEqual(trials.rows(), [(asked, told.tell(asked)) for asked in calls])
        self.assertLessEqual(set(end), set(parts))
        self.assertEqual(told.tell(end), "fail")
        self.assertNotIn("fail", [told.tell(less(end, (number,))) for number in end])
        count = len(parts)
        self.assertLessEqual(len(calls), 3 * count * (count + 1) + 2)
        self.assertEqual(halved(trials, parts), end)
        self.assertEqual(len(told.calls), len(calls))

    def test_every_test_of_few_pieces(self):
        for count in range(4):
            for table in tables(count):
                self.right(Table(table), full(count))

    def test_drawn_tests(self):
        for told, parts in drawn_tests("halved", 300):
            self.right(told, parts)

    def test_drawn_tests_of_many_numbers(self):
        for told, parts in drawn_tests("many", 30, most=60):
            self.right(told, parts)

    def test_all_120(self):
        for wanted in ((), (0,), (119,), (0, 119), (3, 60, 61, 100), tuple(range(0, 120, 8))):
            self.right(Wanting(wanted), full(120))
        self.right(Told(lambda parts: "fail" if parts == full(120) else "unresolved"), full(120))

    def test_the_calls_of_one_way(self):
        told = Wanting((0, 2))
        self.assertEqual(halved(told.trials(), (0, 1, 2, 3)), (0, 2))
        self.assertEqual(told.calls, [(0, 1, 2, 3), (), (0, 1), (2, 3), (0,), (1,), (2,), (3,),
                                      (1, 2, 3), (0, 2, 3), (0, 3), (0, 2)])

    def test_of_none(self):
        told = Wanting(())
        self.assertEqual(halved(told.trials(), ()), ())
        self.assertEqual(told.calls, [()])

    def test_the_empty_one_fails(self):
        told = Wanting(())
        self.assertEqual(halved(told.trials(), (2, 3, 5)), ())
        self.assertEqual(told.calls, [(2, 3, 5), ()])

    def test_of_one(self):
        told = Wanting((7,))
        self.assertEqual(halved(told.trials(), (7,)), (7,))
        self.assertEqual(told.calls, [(7,), ()])

    def test_of_two_far_apart(self):
        told = Wanting((119,))
        self.assertEqual(halved(told.trials(), (0, 119)), (119,))
        self.assertEqual(told.calls, [(0, 119), (), (0,), (119,)])
        told = Wanting((0, 119))
        self.assertEqual(halved(told.trials(), (0, 119)), (0, 119))
        self.assertEqual(told.calls, [(0, 119), (), (0,), (119,)])

    def test_what_is_known_is_not_called(self):
        for told, parts in drawn_tests("known", 150):
            calls, end = right_calls(told, parts)
            chance = random.Random(str(parts))
            known = [(asked, told.tell(asked)) for asked in calls if chance.random() < 0.5]
            self.assertEqual(halved(told.trials(known=known), parts), end)
            self.assertEqual(told.calls, [asked for asked in calls if asked not in dict(known)])

    def test_of_a_monotone_test_nothing_within_what_is_told_fails(self):
        told = Wanting((1, 5), (2, 5, 7), (0, 3, 4))
        end = halved(told.trials(), full(9))
        self.assertIn(end, [(1, 5), (2, 5, 7), (0, 3, 4)])


class HalvedRefusalTests(RefusalTests):

    def test_trials(self):
        for call in (halved, Halving):
            self.all_refused("trials", lambda thing: call(thing, (0, 1)), NO_CONFIGURATIONS + [()])
            self.all_refused("trials", lambda thing: call(thing, None), things())

    def test_parts(self):
        told = Wanting(())
        trials = told.trials()
        for call in (halved, Halving):
            self.all_refused("parts", lambda thing: call(trials, thing), NO_CONFIGURATIONS)
        self.assertEqual(told.calls, [])

    def test_parts_ahead_of_what_ask_raises(self):
        def test(parts):
            with self.assertRaises(Nested):
                trials.ask(parts)
            for call in (halved, Halving):
                self.refused("parts", call, trials, None)
                with self.assertRaises(Nested):
                    call(trials, ())
            return "pass"
        trials = Trials(test)
        self.assertEqual(trials.ask((0,)), "pass")
        for call in (halved, Halving):
            self.refused("parts", call, Trials(test, most=0), None)

    def test_what_does_not_fail(self):
        for verdict in ("pass", "unresolved"):
            for call in (halved, Halving):
                told = Told(lambda parts: verdict)
                trials = told.trials()
                with self.assertRaises(NotSo) as caught:
                    call(trials, (3, 9))
                self.assertEqual((caught.exception.parts, caught.exception.verdict), ((3, 9), verdict))
                self.assertEqual(told.calls, [(3, 9)])
                self.assertEqual(trials.rows(), [((3, 9), verdict)])

    def test_what_ask_raises_when_it_is_made(self):
        for call in (halved, Halving):
            with self.assertRaises(Spent):
                call(Wanting(()).trials(most=0), (1,))
            for thing in NO_VERDICTS:
                with self.assertRaises(BadVerdict) as caught:
                    call(Trials(lambda parts: thing), (1,))
                self.assertIs(caught.exception.told, thing)

    def test_whatever_the_test_raises_goes_on_and_what_was_called_ahead_is_known(self):
        for error in (Gone("away"), KeyError("k"), Nested(), ZeroDivisionError(), BadValue("x"), NotSo((), "pass")):
            told = Wanting((0, 2))
            stop = [True]

            def tell(parts):
                if parts == (1, 2, 3) and stop:
                    raise error
                return told.tell(parts)
            seen = Told(tell)
            trials = seen.trials()
            with self.assertRaises(type(error)) as caught:
                halved(trials, (0, 1, 2, 3))
            self.assertIs(caught.exception, error)
            self.assertEqual(seen.calls[-1], (1, 2, 3))
            self.assertEqual([parts for parts, _ in trials.rows()], seen.calls[:-1])
            self.assertIs(trials.is_calling(), False)
            stop.clear()
            self.assertEqual(halved(trials, (0, 1, 2, 3)), (0, 2))
            self.assertEqual(each_once(seen.calls), right_calls(told, (0, 1, 2, 3))[0])
            self.assertEqual(len(seen.calls), len(set(seen.calls)) + 1)


class HalvingTests(RefusalTests):

    def states(self, halving):
        return halving.stands(), halving.many(), halving.is_over()

    def test_made(self):
        for parts in ((), (5,), (0, 119), full(7)):
            told = Wanting(())
            halving = Halving(told.trials(), parts)
            self.assertEqual(self.states(halving), (parts, 2, False))
            self.assertEqual(told.calls, [parts])

    def test_made_where_all_is_known(self):
        told = Wanting((1,))
        trials = told.trials()
        halved(trials, (0, 1, 2))
        halving = Halving(trials, (0, 1, 2))
        self.assertEqual(self.states(halving), ((0, 1, 2), 2, False))
        self.assertIs(halving.go(calls=0), True)
        self.assertEqual(self.states(halving), ((1,), 2, True))

    def test_of_none(self):
        told = Wanting(())
        halving = Halving(told.trials(), ())
        self.assertIs(halving.go(calls=0), True)
        self.assertEqual(self.states(halving), ((), 2, True))
        self.assertEqual(told.calls, [()])

    def test_of_one(self):
        told = Wanting((4,))
        halving = Halving(told.trials(), (4,))
        self.assertIs(halving.go(calls=0), False)
        self.assertEqual(self.states(halving), ((4,), 2, False))
        self.assertIs(halving.go(), True)
        self.assertEqual(self.states(halving), ((4,), 2, True))
        self.assertEqual(told.calls, [(4,), ()])

    def test_the_empty_one_fails(self):
        halving = Halving(Wanting(()).trials(), (4, 5, 6, 7))
        self.assertIs(halving.go(), True)
        self.assertEqual(self.states(halving), ((), 2, True))

    def test_n_by_and_by(self):
        told = Wanting((0, 2))
        halving = Halving(told.trials(), (0, 1, 2, 3))
        seen = []
        while not halving.go():
            seen.append((told.calls[-1], halving.stands(), halving.many()))
        whole = (0, 1, 2, 3)
        self.assertEqual(seen, [
            ((), whole, 2), ((0, 1), whole, 2), ((2, 3), whole, 4),
            ((0,), whole, 4), ((1,), whole, 4), ((2,), whole, 4), ((3,), whole, 4),
            ((1, 2, 3), whole, 4), ((0, 2, 3), (0, 2, 3), 3), ((0, 3), (0, 2, 3), 3),
        ])
        self.assertEqual(self.states(halving), ((0, 2), 2, True))

    def test_n_where_it_is_over(self):
        for count, many in ((0, 2), (1, 2), (2, 2), (3, 3), (4, 4), (5, 5), (6, 6), (120, 120)):
            told = Wanting(full(count))
            halving = Halving(told.trials(), full(count))
            self.assertIs(halving.go(calls=10 ** 6), True)
            self.assertEqual(self.states(halving), (full(count), many, True))

    def along(self, told, parts, known, steps):
        """A HALVING goes on by steps of so many CALLS, and is each time where the document says."""
        way, end, many = way_of_halving(told.tell, parts)
        trials = told.trials(known=[(asked, told.tell(asked)) for asked in known])
        halving = Halving(trials, parts)
        known = {parts, *known}
        right = each_once([parts] if told.calls else [])
        at = 0
        for calls in steps:
            called = 0
            while at < len(way) and (way[at][0] in known or called < calls):
                if way[at][0] not in known:
                    known.add(way[at][0])
                    right.append(way[at][0])
                    called += 1
                at += 1
            state = (end, many, True) if at == len(way) else (*way[at][1:], False)
            self.assertIs(halving.go(calls=calls), state[2])
            self.assertEqual(self.states(halving), state)
            self.assertEqual(told.calls, right)
        self.assertIs(halving.is_over(), True)

    def test_every_test_of_three_pieces_one_by_one(self):
        for table in tables(3):
            self.along(Table(table), (0, 1, 2), (), [0] + [1] * 20 + [0, 5])

    def test_drawn_tests_by_drawn_steps(self):
        chance = random.Random("steps")
        for told, parts in drawn_tests("steps", 300):
            steps = [chance.choice((0, 0, 1, 1, 2, 3, 7, 20)) for _ in range(60)] + [10 ** 6, 0, 1]
            self.along(told, parts, (), steps)

    def test_drawn_tests_where_much_is_known(self):
        chance = random.Random("much")
        for told, parts in drawn_tests("much", 300):
            way, _, _ = way_of_halving(told.tell, parts)
            known = [asked for asked in each_once([parts] + [row[0] for row in way]) if chance.random() < 0.6]
            steps = [chance.choice((0, 1, 2)) for _ in range(40)] + [10 ** 6]
            self.along(told, parts, known, steps)

    def test_calls_left_out_are_one(self):
        told = Wanting((0, 2))
        halving = Halving(told.trials(), (0, 1, 2, 3))
        for many in range(2, 13):
            self.assertIs(halving.go(), many == 12)
            self.assertEqual(len(told.calls), many)

    def test_over_it_calls_nothing_and_stays(self):
        told = Wanting((0, 2))
        halving = Halving(told.trials(), (0, 1, 2, 3))
        halving.go(calls=50)
        many = len(told.calls)
        for calls in (0, 1, 10 ** 6):
            self.assertIs(halving.go(calls=calls), True)
        self.assertEqual(self.states(halving), ((0, 2), 2, True))
        self.assertEqual(len(told.calls), many)
        self.all_refused("calls", lambda thing: halving.go(calls=thing), NO_CALLS)

    def test_over_what_others_called_meanwhile_it_goes_without_a_call(self):
        told = Wanting((0, 2))
        trials = told.trials()
        halving = Halving(trials, (0, 1, 2, 3))
        for parts in ((), (0, 1), (2, 3), (0,)):
            trials.ask(parts)
        self.assertEqual(self.states(halving), ((0, 1, 2, 3), 2, False))
        self.assertIs(halving.go(calls=0), False)
        self.assertEqual(self.states(halving), ((0, 1, 2, 3), 4, False))
        self.assertEqual(len(told.calls), 5)

    def test_several_by_turns(self):
        for seed in range(20):
            told = Drawn(seed, full(9), (2, 3, 3))
            trials = told.trials()
            failing = [parts for parts in (full(9), (0, 3, 5, 8), (1, 2), (2, 4, 5, 6, 7)) if trials.fails(parts)]
            halvings = [Halving(trials, parts) for parts in failing + failing]
            while not all([halving.go() for halving in halvings]):
                pass
            for halving, parts in zip(halvings, failing + failing):
                self.assertEqual(halving.stands(), way_of_halving(told.tell, parts)[1])
            self.assertEqual(len(told.calls), len(set(told.calls)))

    def test_calls(self):
        told = Wanting((0, 2))
        halving = Halving(told.trials(), (0, 1, 2, 3))
        self.all_refused("calls", lambda thing: halving.go(calls=thing), NO_CALLS)
        self.assertEqual(self.states(halving), ((0, 1, 2, 3), 2, False))
        self.assertEqual(told.calls, [(0, 1, 2, 3)])
        self.assertIs(halving.go(calls=10 ** 6), True)

    def test_calls_ahead_of_what_ask_raises(self):
        halving = Halving(Wanting((0, 2)).trials(most=1), (0, 1, 2, 3))
        self.refused("calls", halving.go, calls=-1)
        self.assertIs(halving.go(calls=0), False)
        with self.assertRaises(Spent):
            halving.go()

    def test_spent_on_the_way(self):
        told = Wanting((0, 2))
        trials = told.trials(most=4)
        halving = Halving(trials, (0, 1, 2, 3))
        with self.assertRaises(Spent) as caught:
            halving.go(calls=9)
        self.assertEqual(caught.exception.most, 4)
        self.assertEqual(self.states(halving), ((0, 1, 2, 3), 4, False))
        self.assertEqual(len(told.calls), 4)
        with self.assertRaises(Spent):
            halving.go()
        self.assertIs(halving.go(calls=0), False)
        trials.allow(100)
        self.assertIs(halving.go(calls=100), True)
        self.assertEqual(told.calls, right_calls(told, (0, 1, 2, 3))[0])

    def test_stopped_by_refusals_it_goes_on_to_the_same_end_by_the_same_calls(self):
        answers = [Gone(), KeyError("k"), None, "Fail", ["fail"], Nested(), OverflowError()]
        for told, parts in drawn_tests("stopped", 100):
            way, end, many = way_of_halving(told.tell, parts)
            seen = set()
            refusals = [0]

            def tell(asked):
                if asked not in seen and asked != parts:
                    seen.add(asked)
                    answer = answers[len(seen) % len(answers)]
                    refusals[0] += 1
                    if isinstance(answer, Exception):
                        raise answer
                    return answer
                return told.tell(asked)
            trials = Trials(tell)
            halving = Halving(trials, parts)
            over = False
            while not over:
                ahead = refusals[0]
                try:
                    over = halving.go(calls=3)
                except (Gone, KeyError, BadVerdict, Nested, OverflowError):
                    self.assertEqual(refusals[0], ahead + 1)
                    known = dict(trials.known_rows())
                    at = next(at for at, row in enumerate(way) if row[0] not in known)
                    self.assertEqual(self.states(halving), (*way[at][1:], False))
                else:
                    self.assertEqual(refusals[0], ahead)
            self.assertEqual(self.states(halving), (end, many, True))
            self.assertEqual([asked for asked, _ in trials.rows()], right_calls(told, parts)[0])

    def test_amid_a_call_of_its_own(self):
        seen = []

        def test(parts):
            if parts != (0, 1, 2):
                self.assertIs(halving.go(calls=0), False)
                seen.append(self.states(halving))
                with self.assertRaises(Nested):
                    halving.go()
                self.assertEqual(self.states(halving), seen[-1])
            return "fail" if 1 in parts else "pass"
        trials = Trials(test)
        halving = Halving(trials, (0, 1, 2))
        self.assertIs(halving.go(calls=50), True)
        self.assertEqual(halving.stands(), (1,))
        self.assertEqual(seen, [((0, 1, 2), 2, False), ((0, 1, 2), 2, False), ((0, 1, 2), 2, False),
                                ((1, 2), 2, False)])

    def test_amid_a_call_what_is_known_is_refused(self):
        def test(parts):
            if parts == (9,):
                with self.assertRaises(Nested):
                    halving.go(calls=0)
                self.assertEqual(self.states(halving), ((0, 1), 2, False))
            return "fail" if 1 in parts else "pass"
        trials = Trials(test, known=[((), "pass")])
        halving = Halving(trials, (0, 1))
        trials.ask((9,))
        self.assertIs(halving.go(calls=5), True)


if __name__ == "__main__":
    unittest.main()

"""SESSIONS, their DEEDS and their LOG [0], [3], [4], [7], [8], [11], [13], [60], [61], [64], [65]."""

import copy
import inspect
import random
import unittest

from leastfail.cases import full
from leastfail.closing import closed_down
from leastfail.cutting import cut_down
from leastfail.errors import BadValue, BadVerdict, Gone, Nested, Nothing, NotSo, Spent
from leastfail.halving import halved
from leastfail.links import closure
from leastfail.papers import check_least, least_paper
from leastfail.sessions import Session
from leastfail.trials import Trials
from tests.anything import NO_CONFIGURATIONS, NO_NUMBERS, NO_VERDICTS, deep_tuple, things
from tests.refusals import RefusalTests
from tests.tables import Drawn, Told, Wanting, configurations, less, way_of_cutting, way_of_halving
from tests.test_closing import way_of_closing
from tests.test_links import NO_LINKS, RING, drawn_links

NO_CALLS = NO_NUMBERS + [-1, 10 ** 6 + 1, 10 ** 30, -10 ** 30]
DEEDS = ("halve", "drop", "close", "retell", "back", "again")


def told_by(session):
    """All that a SESSION tells, but what asks anew."""
    return {
        "stands": session.stands(), "size": session.size(), "rows": session.rows(), "known": session.known_rows(),
        "left": session.left(), "over": session.is_over(), "log": session.log(), "busy": session.is_busy(),
        "many": session.many(), "len": len(session),
    }


def ends(log):
    """How each DEED in a LOG ended; each is begun, in order, and ends right behind that."""
    assert [row for row in log[::2]] == [("begun", at + 1) for at in range(len(log) // 2)]
    assert [row[1] for row in log[1::2]] == [at + 1 for at in range(len(log) // 2)]
    return [row[0] for row in log[1::2]]


class Known:
    """TRIALS in plain words."""

    def __init__(self, tell, most, known):
        self.tell, self.most, self.known, self.rows = tell, most, dict(known), []

    def ask(self, parts):
        if parts not in self.known:
            if len(self.rows) >= self.most:
                raise Spent(self.most)
            verdict = self.tell(parts)
            if verdict not in ("fail", "pass", "unresolved"):
                raise BadVerdict(verdict)
            self.known[parts] = verdict
            self.rows.append((parts, verdict))
        return self.known[parts]


class Model:
    """A SESSION in plain words: where it stands is by which TRIALS, from which C, and how far its way was gone."""

    def __init__(self, tell, count, most=20000):
        self.count, self.whole, self.most = count, tuple(range(count)), most
        trials = Known(tell, most, {})
        self.want(trials, self.whole)
        self.here = (trials, self.whole, 0)
        self.ahead_of, self.back_of, self.log = [], [], []

    def want(self, trials, parts):
        verdict = trials.ask(parts)
        if verdict != "fail":
            raise NotSo(parts, verdict)

    def way(self, here):
        """The way from where it stands: what is ASKED with C ahead of each, C in the end, how far it was gone."""
        trials, parts, at = here

        def tell(asked):
            # Of what isn't known the way is only guessed, for it isn't gone any further then.
            return trials.known.get(asked, "pass")
        way, end, _ = way_of_halving(tell, parts)
        return way, end, at

    def stands(self):
        way, end, at = self.way(self.here)
        return end if at == len(way) else way[at][1]

    def is_over(self):
        way, _, at = self.way(self.here)
        return at == len(way)

    def set(self, here):
        """A DEED has changed something."""
        self.ahead_of.append(self.here)
        self.back_of = []
        self.here = here

    def do(self, deed, *args, **named):
        number = len(self.log) // 2 + 1
        self.log.append(("begun", number))
        try:
            told = getattr(self, deed)(*args, **named)
        except BaseException:
            self.log.append(("refused", number))
            raise
        self.log.append(("done", number))
        return told

    def halve(self, calls=1):
        trials, parts, at = self.here
        here = self.here
        while True:
            way, _, at = self.way(here)
            if at == len(way):
                break
            if way[at][0] not in trials.known:
                if calls == 0:
                    break
                calls -= 1
            trials.ask(way[at][0])
            here = trials, parts, at + 1
        if here != self.here:
            self.set(here)
        return self.is_over()

    def drop(self, parts):
        left = less(self.stands(), parts)
        taken = self.here[0].ask(left) == "fail"
        if taken and left != self.stands():
            self.set((self.here[0], left, 0))
        return taken

    def close(self, links):
        trials = self.here[0]
        parts = closure(links, self.stands())
        self.want(trials, parts)
        end = way_of_closing(links, trials.ask, parts)[1]
        if end != self.stands():
            self.set((trials, end, 0))
        return end

    def retell(self, tell, changed=None):
        known = {} if changed is None else {parts: verdict for parts, verdict in self.here[0].known.items()
                                            if not set(parts) & set(changed)}
        trials = Known(tell, self.most, known)
        parts = self.stands()
        if trials.ask(parts) != "fail":
            parts = self.whole
            self.want(trials, parts)
        self.set((trials, parts, 0))
        return parts

    def back(self):
        if not self.ahead_of:
            raise Nothing("back")
        self.back_of.append(self.here)
        self.here = self.ahead_of.pop()
        return self.stands()

    def again(self):
        if not self.back_of:
            raise Nothing("again")
        self.ahead_of.append(self.here)
        self.here = self.back_of.pop()
        return self.stands()

    def told(self):
        trials = self.here[0]
        return {
            "stands": self.stands(), "size": self.count, "rows": trials.rows, "known": sorted(trials.known.items()),
            "left": self.most - len(trials.rows), "over": self.is_over(), "log": self.log, "busy": False,
            "many": len(self.ahead_of), "len": len(trials.rows),
        }


def outcome(call, *args, **named):
    """What a call tells, or what it raises with its fields."""
    try:
        return "told", call(*args, **named)
    except (BadValue, BadVerdict, Gone, KeyError, Nested, Nothing, NotSo, Spent) as error:
        return type(error), vars(error)


def flaky(tell, seed, share):
    """A TEST that now and then, by how often it was CALLED, raises or tells what is no VERDICT."""
    calls = []

    def test(parts):
        calls.append(parts)
        chance = random.Random(f"{seed} {len(calls)}")
        if chance.random() < share:
            answer = chance.choice([Gone("away"), KeyError("k"), Nested(), None, "Fail"])
            if isinstance(answer, Exception):
                raise answer
            return answer
        return tell(parts)
    return test


def drawn_tell(chance, count):
    """What a TEST tells, by chance; mostly it FAILS of FULL."""
    if chance.random() < 0.5:
        wanted = [chance.sample(range(count), chance.randint(0, min(3, count))) for _ in range(chance.randint(1, 2))]
        return Wanting(*wanted).tell
    parts = full(count) if chance.random() < 0.9 else ()
    return Drawn(chance.random(), parts, chance.choice([(1, 1, 1), (1, 4, 4), (4, 1, 1)])).tell


def drawn_deed(chance, count, share):
    """A DEED by chance: its name, and what is handed in to the SESSION, and to its model."""
    deed = chance.choice(DEEDS + ("halve", "halve", "drop", "back"))
    some = tuple(sorted(chance.sample(range(count), chance.choice([0, 1, 1, 2, count]) if count > 1 else count)))
    if deed == "halve":
        named = {} if chance.random() < 0.3 else {"calls": chance.choice([0, 1, 2, 5, 1000])}
        return deed, ((), named), ((), named)
    if deed == "drop":
        return deed, ((some,), {}), ((some,), {})
    if deed == "close":
        links = chance.choice([(), drawn_links(chance, count, 3), drawn_links(chance, count, 8)])
        return deed, ((links,), {}), ((links,), {})
    if deed == "retell":
        tell, seed = drawn_tell(chance, count), chance.random()
        named = chance.choice([{}, {"changed": None}, {"changed": ()}, {"changed": some}])
        return deed, ((flaky(tell, seed, share),), named), ((flaky(tell, seed, share),), named)
    return deed, ((), {}), ((), {})


class InterfaceTests(unittest.TestCase):

    def test_arguments_defaults_and_stars(self):
        told = {
            Session: "(test, count, *, most=20000)",
            Session.halve: "(self, *, calls=1)",
            Session.drop: "(self, parts)",
            Session.close: "(self, links)",
            Session.retell: "(self, test, *, changed=None)",
        }
        for name in ("back", "again", "stands", "size", "rows", "known_rows", "left", "is_over", "log", "is_busy",
                     "many", "paper", "copy"):
            told[getattr(Session, name)] = "(self)"
        for thing, signature in told.items():
            self.assertEqual(str(inspect.signature(thing)), signature)
            if thing is not Session:
                self.assertIn(thing.__name__, vars(Session))
        for name in ("__init__", "__eq__", "__len__"):
            self.assertIn(name, vars(Session))

    def test_by_name(self):
        session = Session(most=50, count=4, test=Wanting((1, 3)).test)
        self.assertIs(session.drop(parts=(0,)), True)
        self.assertEqual(session.close(links=((1, 2),)), (1, 2, 3))
        self.assertEqual(session.retell(changed=(0,), test=Wanting((1,)).test), (1, 2, 3))
        self.assertIs(session.halve(calls=100), True)
        self.assertEqual(session.stands(), (1,))

    def test_by_place(self):
        session = Session(Wanting((1,)).test, 2)
        for call, args in ((Session, (Wanting(()).test, 3, 5)), (session.halve, (1,)),
                           (session.retell, (Wanting(()).test, ()))):
            with self.assertRaises(TypeError):
                call(*args)


class MadeTests(RefusalTests):

    def test_of_none_one_and_many_pieces(self):
        for count in (0, 1, 2, 7, 120):
            told = Wanting(full(count))
            session = Session(told.test, count)
            self.assertEqual(told.calls, [full(count)])
            self.assertEqual(told_by(session), {
                "stands": full(count), "size": count, "rows": [(full(count), "fail")],
                "known": [(full(count), "fail")], "left": 19999, "over": False, "log": [], "busy": False, "many": 0,
                "len": 1})

    def test_most(self):
        self.assertEqual(Session(Wanting(()).test, 3, most=1).left(), 0)
        self.assertEqual(Session(Wanting(()).test, 3, most=10 ** 6).left(), 10 ** 6 - 1)
        with self.assertRaises(Spent) as caught:
            Session(Wanting(()).test, 3, most=0)
        self.assertEqual(caught.exception.most, 0)

    def test_what_does_not_fail(self):
        for verdict in ("pass", "unresolved"):
            for count in (0, 3):
                with self.assertRaises(NotSo) as caught:
                    Session(lambda parts: verdict, count)
                self.assertEqual((caught.exception.parts, caught.exception.verdict), (full(count), verdict))

    def test_what_ask_raises(self):
        for error in (Gone("g"), KeyError("k"), Nested(), ZeroDivisionError()):
            def test(parts):
                raise error
            with self.assertRaises(type(error)) as caught:
                Session(test, 2)
            self.assertIs(caught.exception, error)
        for thing in NO_VERDICTS:
            with self.assertRaises(BadVerdict) as caught:
                Session(lambda parts: thing, 2)
            self.assertIs(caught.exception.told, thing)

    def test_refused(self):
        told = Wanting(())
        no_counts = NO_NUMBERS + [-1, 121, 10 ** 30]
        self.all_refused("count", lambda thing: Session(told.test, thing), no_counts)
        self.all_refused("count", lambda thing: Session(told.test, thing, most=None), no_counts)
        self.all_refused("most", lambda thing: Session(told.test, 2, most=thing), NO_CALLS)
        self.assertEqual(told.calls, [])


class ModelTests(unittest.TestCase):

    def drive(self, seed, count, many, share, most=20000):
        """Drawn DEEDS, done by a SESSION and by its model: each time both tell the same, and CALL the same."""
        chance = random.Random(f"session {seed}")
        tell = drawn_tell(chance, count)
        mine = Told(flaky(tell, seed, share))
        other = Told(flaky(tell, seed, share))
        made = outcome(Session, mine.test, count, most=most)
        right = outcome(Model, other.test, count, most)
        self.assertEqual(made[0], right[0])
        if made[0] != "told":
            self.assertEqual(made, right)
            return 0
        session, model = made[1], right[1]
        for _ in range(many):
            deed, one, two = drawn_deed(chance, count, share)
            found = outcome(getattr(session, deed), *one[0], **one[1])
            self.assertEqual(found, outcome(model.do, deed, *two[0], **two[1]), deed)
            self.assertEqual(told_by(session), model.told())
            self.assertEqual(mine.calls, other.calls)
            ends(session.log())
        return many

    def test_drawn_deeds(self):
        chance = random.Random("counts")
        self.assertGreater(sum(self.drive(seed, chance.choice([0, 1, 2, 3, 4, 5, 6]), 40, 0) for seed in range(250)),
                           5000)

    def test_drawn_deeds_that_are_stopped(self):
        chance = random.Random("stopped")
        for seed in range(250):
            self.drive(seed, chance.choice([0, 1, 2, 3, 4, 5, 6]), 40, 0.15)

    def test_drawn_deeds_that_are_spent(self):
        chance = random.Random("spent")
        for seed in range(250):
            self.drive(seed, chance.choice([2, 3, 4, 5, 6]), 40, chance.choice([0, 0.1]), most=chance.randint(1, 12))

    def test_many_pieces(self):
        for seed in range(6):
            self.drive(f"many {seed}", 40, 25, 0)


class HalveTests(unittest.TestCase):

    def test_to_its_end_it_is_halved(self):
        for seed in range(60):
            for steps in ((0, 1, 2), (1,), (3, 0), (1000,)):
                told = Drawn(seed, full(8), (1, 3, 3))
                right = halved(told.trials(), full(8))
                calls = list(told.calls)
                told.calls.clear()
                session = Session(told.test, 8)
                at = 0
                while not session.halve(calls=steps[at % len(steps)]):
                    at += 1
                self.assertEqual(session.stands(), right)
                self.assertIs(session.is_over(), True)
                self.assertEqual(told.calls, calls)
                paper = session.paper()
                self.assertEqual(paper, least_paper(Trials(told.tell), right))
                self.assertIs(check_least(session.known_rows(), paper), True)

    def test_from_where_other_deeds_came_to_it_is_halved_from_there(self):
        for seed in range(60):
            told = Drawn(seed, full(8), (2, 1, 1))
            session = Session(told.test, 8)
            for parts in ((1, 3), (0,), (7,), (2, 6)):
                session.drop(parts)
            begin = session.stands()
            session.halve(calls=1000)
            self.assertEqual(session.stands(), halved(Trials(told.tell), begin))
            self.assertEqual(len(told.calls), len(set(told.calls)))

    def test_calls_left_out_are_one(self):
        told = Wanting((0, 2))
        session = Session(told.test, 4)
        for many in range(2, 13):
            self.assertIs(session.halve(), many == 12)
            self.assertEqual((len(told.calls), len(session)), (many, many))
            self.assertEqual(session.many(), many - 1)
        self.assertIs(session.halve(), True)
        self.assertEqual((session.many(), session.stands()), (11, (0, 2)))

    def test_what_changes_nothing_cannot_be_taken_back(self):
        session = Session(Wanting((0, 2)).test, 4)
        self.assertIs(session.halve(calls=0), False)
        self.assertEqual(session.many(), 0)
        session.halve(calls=50)
        session.halve(calls=50)
        self.assertEqual(session.many(), 1)
        session.back()
        # What is known is gone over without a call.
        self.assertIs(session.halve(calls=0), True)
        self.assertEqual((session.stands(), session.many()), ((0, 2), 1))

    def test_how_far_the_halving_is_changes_where_c_does_not(self):
        told = Wanting((0, 1))
        session = Session(told.test, 2)
        session.halve()
        self.assertEqual((session.stands(), session.is_over(), session.many()), ((0, 1), False, 1))
        session.halve(calls=2)
        self.assertEqual((session.stands(), session.is_over(), session.many()), ((0, 1), True, 2))
        session.back()
        self.assertEqual((session.stands(), session.is_over(), session.many()), ((0, 1), False, 1))
        self.assertEqual(session.again(), (0, 1))
        self.assertIs(session.is_over(), True)

    def test_of_no_pieces(self):
        session = Session(Wanting(()).test, 0)
        self.assertIs(session.is_over(), False)
        self.assertIs(session.halve(calls=0), True)
        self.assertEqual((session.is_over(), session.many(), session.stands()), (True, 1, ()))
        session.back()
        self.assertIs(session.is_over(), False)


class DropTests(unittest.TestCase):

    def test_taken_or_not(self):
        told = Wanting((1, 3))
        session = Session(told.test, 5)
        self.assertIs(session.drop((0, 4)), True)
        self.assertEqual(session.stands(), (1, 2, 3))
        self.assertIs(session.drop((2, 3)), False)
        self.assertEqual(session.stands(), (1, 2, 3))
        self.assertIs(session.drop((0, 2, 4)), True)
        self.assertEqual(session.stands(), (1, 3))
        self.assertIs(session.drop(full(5)), False)
        self.assertEqual(told.calls, [(0, 1, 2, 3, 4), (1, 2, 3), (1,), (1, 3), ()])
        self.assertEqual((session.many(), ends(session.log())), (2, ["done"] * 4))

    def test_of_numbers_that_c_has_not(self):
        told = Wanting((1,))
        session = Session(told.test, 3)
        session.drop((0,))
        for parts in ((), (0,)):
            self.assertIs(session.drop(parts), True)
        self.assertEqual((session.stands(), session.many(), len(told.calls)), ((1, 2), 1, 2))

    def test_the_halving_is_anew_where_c_is_another_one_and_not_else(self):
        told = Wanting((0, 2))
        session = Session(told.test, 4)
        session.halve(calls=100)
        self.assertIs(session.is_over(), True)
        session.drop((1, 3))
        session.drop((0,))
        self.assertIs(session.is_over(), True)
        session.back()
        self.assertEqual((session.stands(), session.is_over()), ((0, 1, 2, 3), False))
        session.drop((3,))
        self.assertEqual((session.stands(), session.is_over()), ((0, 1, 2), False))
        session.halve(calls=100)
        self.assertEqual((session.stands(), session.is_over()), ((0, 2), True))
        self.assertEqual(session.back(), (0, 1, 2))
        self.assertEqual(session.back(), (0, 1, 2, 3))


class CloseTests(unittest.TestCase):

    def test_without_links_it_is_cut_down(self):
        for seed in range(60):
            told = Drawn(seed, full(6), (1, 2, 2))
            session = Session(told.test, 6)
            right = cut_down(Trials(told.tell), full(6))
            self.assertEqual(session.close(()), right)
            self.assertEqual(session.stands(), right)
            self.assertEqual(session.stands(), way_of_cutting(told.tell, full(6))[1])
            self.assertIs(check_least(session.known_rows(), session.paper()), True)

    def test_from_its_closure(self):
        told = Wanting((1,))
        session = Session(told.test, 4)
        session.drop((0, 2, 3))
        self.assertEqual(session.close(((1, 2), (2, 3))), (1, 2, 3))
        self.assertEqual(session.stands(), closed_down(Trials(told.tell), ((1, 2), (2, 3)), (1, 2, 3)))
        self.assertEqual((session.many(), session.is_over()), (2, False))
        self.assertEqual(session.back(), (1,))

    def test_where_c_stays(self):
        session = Session(Wanting((0, 1, 2)).test, 3)
        session.halve()
        self.assertEqual(session.close(RING), (0, 1, 2))
        self.assertEqual((session.many(), session.log()[-1]), (1, ("done", 2)))

    def test_where_the_closure_does_not_fail(self):
        told = Told(lambda parts: "fail" if parts in ((0, 1, 2), (0,)) else "unresolved")
        session = Session(told.test, 3)
        session.drop((1, 2))
        ahead = told_by(session)
        with self.assertRaises(NotSo) as caught:
            session.close(((0, 1),))
        self.assertEqual((caught.exception.parts, caught.exception.verdict), ((0, 1), "unresolved"))
        self.assertEqual((session.stands(), session.many()), (ahead["stands"], ahead["many"]))
        self.assertEqual(session.log()[-2:], [("begun", 2), ("refused", 2)])
        self.assertEqual(session.rows(), ahead["rows"] + [((0, 1), "unresolved")])


class RetellTests(unittest.TestCase):

    def known(self, changed):
        """What is known, and CALLED, behind a retell by which FULL FAILS alone."""
        first = Wanting((1,))
        session = Session(first.test, 4)
        for parts in ((0,), (2,), (1,), (3,)):
            session.drop(parts)
        second = Told(lambda parts: "fail" if parts in ((1,), (0, 1, 2, 3)) else "pass")
        self.assertEqual(session.stands(), (1,))
        session.retell(second.test, changed=changed)
        return dict(session.known_rows()), second.calls, session

    def test_what_is_known_on(self):
        known, calls, session = self.known(None)
        self.assertEqual((known, calls), ({(1,): "fail"}, [(1,)]))
        self.assertEqual((session.rows(), len(session), session.left()), ([((1,), "fail")], 1, 19999))
        whole = {(0, 1, 2, 3): "fail", (1, 2, 3): "fail", (1, 3): "fail", (3,): "pass", (1,): "fail"}
        known, calls, session = self.known(())
        self.assertEqual((known, calls), (whole, []))
        self.assertEqual((session.rows(), len(session), session.left()), ([], 0, 20000))
        known, calls, session = self.known((2,))
        self.assertEqual((known, calls), ({(1, 3): "fail", (3,): "pass", (1,): "fail"}, []))
        known, calls, session = self.known((1,))
        self.assertEqual((known, calls), ({(3,): "pass", (1,): "fail"}, [(1,)]))
        known, calls, session = self.known((0, 1, 2, 3))
        self.assertEqual((known, calls), ({(1,): "fail"}, [(1,)]))

    def test_the_empty_one_is_known_on_whatever_is_changed(self):
        session = Session(Wanting((1,)).test, 2)
        session.halve()
        self.assertEqual(session.known_rows(), [((), "pass"), ((0, 1), "fail")])
        session.retell(Wanting((1,)).test, changed=(0, 1))
        self.assertEqual(session.known_rows(), [((), "pass"), ((0, 1), "fail")])
        self.assertEqual(session.rows(), [((0, 1), "fail")])

    def test_what_was_known_on_is_known_on_again(self):
        session = Session(Wanting((1,)).test, 3)
        session.drop((0,))
        session.retell(Wanting((1,)).test, changed=())
        session.retell(Wanting((1,)).test, changed=(0,))
        self.assertEqual(session.known_rows(), [((1, 2), "fail")])

    def test_where_c_does_not_fail_full_is_asked(self):
        session = Session(Wanting((1,)).test, 3)
        session.halve(calls=100)
        self.assertEqual(session.stands(), (1,))
        second = Wanting((2,))
        self.assertEqual(session.retell(second.test), (0, 1, 2))
        self.assertEqual(second.calls, [(1,), (0, 1, 2)])
        self.assertEqual((session.stands(), session.is_over()), ((0, 1, 2), False))
        self.assertEqual(session.halve(calls=100), True)
        self.assertEqual(session.stands(), (2,))

    def test_where_full_does_not_fail_it_is_refused(self):
        for verdict in ("pass", "unresolved"):
            for dropped in ((), (0,)):
                session = Session(Wanting((1,)).test, 3)
                session.drop(dropped)
                ahead = told_by(session)
                second = Told(lambda parts: verdict)
                with self.assertRaises(NotSo) as caught:
                    session.retell(second.test)
                self.assertEqual((caught.exception.parts, caught.exception.verdict), ((0, 1, 2), verdict))
                self.assertEqual(told_by(session), {**ahead, "log": ahead["log"] + [("begun", 2), ("refused", 2)]})
                self.assertEqual(len(second.calls), len(set(second.calls)))

    def test_the_halving_is_anew(self):
        told = Wanting((0, 2))
        session = Session(told.test, 4)
        session.halve(calls=100)
        session.retell(told.test, changed=())
        self.assertEqual((session.stands(), session.is_over(), session.many()), ((0, 2), False, 2))
        self.assertIs(session.halve(calls=100), True)
        self.assertEqual(session.stands(), (0, 2))
        session.back()
        self.assertIs(session.is_over(), False)
        session.back()
        self.assertIs(session.is_over(), True)

    def test_back_and_again_over_it(self):
        first, second = Wanting((1,)), Wanting((2,))
        session = Session(first.test, 3, most=6)
        session.drop((0,))
        left = told_by(session)
        session.retell(second.test)
        session.drop((1,))
        there = told_by(session)
        session.back()
        self.assertEqual(session.rows(), there["rows"])
        session.back()
        self.assertEqual({**told_by(session), "log": []}, {**left, "log": []})
        # It is the first TEST that is CALLED now, and it goes on.
        self.assertIs(session.drop((1,)), False)
        self.assertEqual(first.calls[-1], (2,))
        self.assertEqual(session.left(), 3)
        session.again()
        self.assertEqual((session.stands(), session.rows()), ((1, 2), there["rows"]))
        session.again()
        self.assertEqual({**told_by(session), "log": []}, {**there, "log": []})
        session.back()
        session.back()
        self.assertEqual((session.left(), session.rows()[-1]), (3, ((2,), "pass")))

    def test_most_over_it(self):
        session = Session(Wanting((1,)).test, 3, most=3)
        session.drop((0,))
        session.drop((2,))
        self.assertEqual(session.left(), 0)
        with self.assertRaises(Spent):
            session.halve()
        session.retell(Wanting((1,)).test, changed=())
        self.assertEqual(session.left(), 3)
        self.assertIs(session.halve(), True)
        self.assertEqual(session.left(), 2)
        session.back()
        session.back()
        self.assertEqual(session.left(), 0)


class BackTests(RefusalTests):

    def nothing(self, session, deed):
        with self.assertRaises(Nothing) as caught:
            getattr(session, deed)()
        self.assertEqual(caught.exception.about, deed)
        self.assertEqual(session.log()[-1][0], "refused")

    def test_nothing(self):
        session = Session(Wanting((1,)).test, 3)
        self.nothing(session, "back")
        self.nothing(session, "again")
        session.drop((0,))
        self.nothing(session, "again")
        session.back()
        self.nothing(session, "back")
        session.again()
        self.nothing(session, "again")
        self.assertEqual(ends(session.log()), ["refused"] * 2 + ["done", "refused"] * 3)

    def test_rows_of_deeds(self):
        session = Session(Wanting((1,)).test, 5)
        seen = [session.stands()]
        for number in (0, 2, 4, 3):
            session.drop((number,))
            seen.append(session.stands())
        self.assertEqual(seen[-1], (1,))
        for _ in range(2):
            self.assertEqual([session.back() for _ in range(4)], seen[-2::-1])
            self.assertEqual(session.many(), 0)
            self.assertEqual([session.again() for _ in range(4)], seen[1:])
            self.assertEqual(session.many(), 4)

    def test_nothing_is_called(self):
        told = Wanting((1,))
        session = Session(told.test, 5)
        session.drop((0,))
        session.halve(calls=3)
        rows = session.rows()
        session.back()
        session.back()
        session.again()
        session.again()
        self.assertEqual((session.rows(), len(told.calls)), (rows, len(rows)))

    def test_behind_another_deed_that_changes_something_nothing_is_done_again(self):
        for deed in (lambda session: session.drop((2,)), lambda session: session.halve(calls=1),
                     lambda session: session.close(()), lambda session: session.retell(Wanting((1,)).test)):
            session = Session(Wanting((1,)).test, 5)
            session.drop((0,))
            session.back()
            deed(session)
            self.nothing(session, "again")
            session.back()
            session.again()

    def test_a_deed_that_changes_nothing_leaves_what_can_be_done_again(self):
        session = Session(Wanting((1, 2)).test, 3)
        session.drop((0,))
        session.back()
        session.drop((1,))
        session.drop(())
        session.halve(calls=0)
        self.refused("parts", session.drop, None)
        with self.assertRaises(NotSo):
            session.retell(lambda parts: "pass")
        self.assertEqual(session.many(), 0)
        self.assertEqual(session.again(), (1, 2))
        self.assertEqual(session.back(), (0, 1, 2))

    def test_the_halving_as_it_stood(self):
        told = Wanting((0, 2))
        session = Session(told.test, 4)
        session.halve(calls=4)
        session.drop((1,))
        self.assertIs(session.is_over(), False)
        session.back()
        # It goes on from where it stood, by what it would have ASKED next.
        session.halve()
        self.assertEqual(told.calls[-1], (1,))
        self.assertEqual(told.calls, [(0, 1, 2, 3), (), (0, 1), (2, 3), (0,), (0, 2, 3), (1,)])


class RefusedTests(RefusalTests):

    def made(self):
        """A SESSION amid much: a HALVING gone some way, and what can be taken back and done again."""
        session = Session(Wanting((1, 4)).test, 6, most=500)
        session.drop((0,))
        session.halve(calls=4)
        session.drop((5,))
        session.back()
        return session

    def same_but_log(self, session, ahead, calls):
        number = len(ahead["log"]) // 2 + 1
        right = {**ahead, "log": ahead["log"] + [("begun", number), ("refused", number)]}
        right.update(rows=ahead["rows"] + calls, known=sorted(ahead["known"] + calls),
                     left=ahead["left"] - len(calls), len=ahead["len"] + len(calls))
        self.assertEqual(told_by(session), right)

    def test_bad_values(self):
        session = self.made()
        wrong = [(6,), (0, 6), (119,)]
        for what, call, told in (
                ("calls", lambda thing: session.halve(calls=thing), NO_CALLS),
                ("parts", session.drop, NO_CONFIGURATIONS + wrong),
                ("links", session.close, NO_LINKS + [((0, 6),), ((6, 0),), ((0, 1), (1, 119))]),
                ("changed", lambda thing: session.retell(Wanting(()).test, changed=thing),
                 [thing for thing in NO_CONFIGURATIONS + wrong if thing is not None])):
            for at, thing in enumerate(told):
                with self.subTest(what=what, at=at):
                    ahead = told_by(session)
                    self.refused(what, call, thing)
                    self.same_but_log(session, ahead, [])
        self.assertEqual(session.again(), (1, 2, 3, 4))
        self.assertEqual(session.back(), (1, 2, 3, 4, 5))

    def test_by_the_test_and_by_spent(self):
        deeds = {
            "halve": lambda session: session.halve(calls=100),
            "drop": lambda session: session.drop((2,)),
            "close": lambda session: session.close(((1, 2),)),
        }
        for name, deed in deeds.items():
            whole = self.made()
            ahead = whole.rows()
            right = deed(whole)
            calls = whole.rows()[len(ahead):]
            self.assertTrue(calls, name)
            for at, (stopped, _) in enumerate(calls):
                for answer in (Gone("g"), KeyError("k"), Nested(), None, "Fail"):
                    self.stopped_at(deed, right, whole, stopped, answer, calls[:at])
                session = Session(Wanting((1, 4)).test, 6, most=len(ahead) + at)
                session.drop((0,))
                session.halve(calls=4)
                session.drop((5,))
                session.back()
                before = told_by(session)
                with self.assertRaises(Spent):
                    deed(session)
                self.same_but_log(session, before, calls[:at])
                self.assertEqual(session.again(), (1, 2, 3, 4))

    def stopped_at(self, deed, right, whole, stopped, answer, called):
        left = [answer]

        def tell(parts):
            if parts == stopped and left:
                left.clear()
                if isinstance(answer, Exception):
                    raise answer
                return answer
            return "fail" if {1, 4} <= set(parts) else "pass"
        session = Session(tell, 6, most=500)
        session.drop((0,))
        session.halve(calls=4)
        session.drop((5,))
        session.back()
        ahead = told_by(session)
        found = outcome(deed, session)
        self.assertNotEqual(found[0], "told")
        if isinstance(answer, Exception):
            self.assertIs(found[0], type(answer))
        else:
            self.assertEqual(found, (BadVerdict, {"told": answer}))
        self.same_but_log(session, ahead, called)
        # What can be done again can be, still; and the same DEED goes on later.
        other = session.copy()
        self.assertEqual(other.again(), (1, 2, 3, 4))
        self.assertEqual(deed(session), right)
        self.assertEqual(session.rows(), whole.rows())
        self.assertEqual((session.stands(), session.is_over(), session.many()),
                         (whole.stands(), whole.is_over(), whole.many()))

    def test_a_retell_that_is_refused_keeps_nothing_that_it_called(self):
        session = self.made()
        ahead = told_by(session)
        calls = []

        def test(parts):
            calls.append(parts)
            if len(calls) == 2:
                raise Gone("g")
            return "pass"
        with self.assertRaises(Gone):
            session.retell(test)
        self.assertEqual(calls, [(1, 2, 3, 4, 5), full(6)])
        self.same_but_log(session, ahead, [])
        self.assertEqual(session.retell(Wanting((2,)).test), (1, 2, 3, 4, 5))
        self.assertEqual(session.rows(), [((1, 2, 3, 4, 5), "fail")])

    def test_whatever_is_raised_ends_it(self):
        for error in (KeyboardInterrupt(), SystemExit(1), RecursionError("deep"), StopIteration(), MemoryError()):
            left = [error]

            def test(parts):
                if parts == () and left:
                    raise left.pop()
                return "fail" if 1 in parts else "pass"
            session = Session(test, 3)
            with self.assertRaises(type(error)) as caught:
                session.halve()
            self.assertIs(caught.exception, error)
            self.assertEqual((session.is_busy(), session.log()), (False, [("begun", 1), ("refused", 1)]))
            self.assertIs(session.halve(calls=100), True)
            self.assertEqual(session.stands(), (1,))


class AmidTests(RefusalTests):

    def deeds(self, session):
        """Each DEED, of right things and of wrong ones."""
        test = Wanting(()).test
        for thing in (1, -1, None, deep_tuple()):
            yield lambda: session.halve(calls=thing)
        for thing in ((), (0,), (9,), None, deep_tuple()):
            yield lambda: session.drop(thing)
        for thing in ((), ((0, 1),), ((0, 9),), None, deep_tuple()):
            yield lambda: session.close(thing)
        for thing in ((), (0,), (9,), None, "x", deep_tuple()):
            yield lambda: session.retell(test, changed=thing)
        yield session.back
        yield session.again

    def test_amid_each_deed(self):
        deeds = {
            "halve": lambda session, test: session.halve(calls=5),
            "drop": lambda session, test: session.drop((2,)),
            "close": lambda session, test: session.close(((0, 1),)),
            "retell": lambda session, test: session.retell(test),
        }
        for name, deed in deeds.items():
            seen, box = [], []

            def test(parts):
                if box:
                    session = box[0]
                    for call in self.deeds(session):
                        with self.assertRaises(Nested):
                            call()
                    seen.append(told_by(session))
                return "fail" if 1 in parts else "pass"
            session = Session(test, 3)
            session.drop((0,))
            session.back()
            ahead = told_by(session)
            box.append(session)
            deed(session, test)
            self.assertTrue(seen, name)
            for told in seen:
                self.assertIs(told["busy"], True)
                self.assertEqual(told["log"], ahead["log"] + [("begun", 3)])
                self.assertEqual((told["stands"], told["many"], told["over"]), ((0, 1, 2), 0, False))
                self.assertEqual(told["rows"][:len(ahead["rows"])], ahead["rows"])
            self.assertEqual(seen[0]["rows"], ahead["rows"])
            self.assertEqual((session.is_busy(), session.log()[-2:]), (False, [("begun", 3), ("done", 3)]))

    def test_a_nested_that_the_test_met_goes_on(self):
        def test(parts):
            if len(parts) < 3:
                session.back()
            return "fail"
        session = Session(test, 3)
        with self.assertRaises(Nested):
            session.drop((0,))
        self.assertEqual((session.log(), session.is_busy()), ([("begun", 1), ("refused", 1)], False))

    def test_amid_a_deed_other_sessions_go_on(self):
        seen = []

        def test(parts):
            if parts == (1, 2):
                other = Session(Wanting((1,)).test, 3)
                seen.append((other.halve(calls=100), other.stands(), session.is_busy()))
            return "fail" if 1 in parts else "pass"
        session = Session(test, 3)
        self.assertIs(session.drop((0,)), True)
        self.assertEqual(seen, [(True, (1,), True)])

    def test_a_copy_amid_a_deed(self):
        seen = []

        def test(parts):
            if parts == (1, 2):
                seen.append(session.copy())
                seen.append(seen[0] == session)
            return "fail" if 1 in parts else "pass"
        session = Session(test, 3)
        session.drop((0,))
        other, was_same = seen
        self.assertIs(was_same, True)
        self.assertEqual((other.is_busy(), other.stands(), other.rows()), (False, (0, 1, 2), [((0, 1, 2), "fail")]))
        self.assertIs(other.drop((2,)), True)
        self.assertEqual((other.stands(), session.stands()), ((0, 1), (1, 2)))

    def test_paper_is_no_deed(self):
        told = Wanting((1,))
        session = Session(told.test, 3)
        self.assertIsNone(session.paper())
        session.halve(calls=100)
        log = session.log()
        self.assertEqual(session.paper(), ((1,), ((1, "pass"),)))
        self.assertEqual((session.log(), session.is_busy()), (log, False))

    def test_amid_a_call_of_paper_trials_refuse(self):
        seen = []

        def test(parts):
            if parts == (0,):
                seen.append(session.is_busy())
                with self.assertRaises(Nested):
                    session.paper()
                with self.assertRaises(Nested):
                    session.drop((0,))
                seen.append(session.log())
            return "fail" if parts == (0, 1) else "pass"
        session = Session(test, 2)
        self.assertEqual(session.paper(), ((0, 1), ((0, "pass"), (1, "pass"))))
        self.assertEqual(seen, [False, [("begun", 1), ("refused", 1)]])

    def test_amid_a_deed_paper_meets_the_trials(self):
        seen = []

        def test(parts):
            if parts != (0, 1):
                with self.assertRaises(Nested):
                    session.paper()
                seen.append(parts)
            return "fail" if parts == (0, 1) else "pass"
        session = Session(test, 2)
        session.halve(calls=100)
        self.assertEqual(seen, [(), (0,), (1,)])

    def test_what_paper_raises(self):
        session = Session(Wanting((0, 1)).test, 2, most=2)
        with self.assertRaises(Spent):
            session.paper()
        self.assertEqual((session.log(), session.left()), ([], 0))


class CopyTests(unittest.TestCase):

    def test_drawn_copies_go_on_by_themselves(self):
        for seed in range(120):
            chance = random.Random(f"copies {seed}")
            count = chance.choice([0, 1, 2, 3, 4, 5])
            tell = drawn_tell(chance, count)
            made = outcome(Session, tell, count)
            if made[0] != "told":
                continue
            pairs = [(made[1], Model(tell, count))]
            for _ in range(60):
                session, model = chance.choice(pairs)
                if chance.random() < 0.12 and len(pairs) < 6:
                    other = session.copy()
                    self.assertIsNot(other, session)
                    self.assertTrue(other == session)
                    pairs.append((other, copy.deepcopy(model)))
                    continue
                deed, one, two = drawn_deed(chance, count, 0)
                found = outcome(getattr(session, deed), *one[0], **one[1])
                self.assertEqual(found, outcome(model.do, deed, *two[0], **two[1]))
                for session, model in pairs:
                    self.assertEqual(told_by(session), model.told())

    def test_the_very_test_and_nothing_is_called(self):
        told = Wanting((1,))
        session = Session(told.test, 3, most=9)
        session.drop((0,))
        many = len(told.calls)
        other = session.copy()
        self.assertIsInstance(other, Session)
        self.assertEqual(len(told.calls), many)
        self.assertEqual(told_by(other), told_by(session))
        other.drop((2,))
        self.assertEqual(told.calls[-1], (1,))
        self.assertEqual((session.stands(), session.left(), session.many()), ((1, 2), 7, 1))
        self.assertEqual((other.stands(), other.left(), other.many()), ((1,), 6, 2))
        session.drop((2,))
        self.assertEqual(told.calls[-2:], [(1,), (1,)])

    def test_with_all_that_can_be_taken_back_or_done_again(self):
        session = Session(Wanting((1,)).test, 4)
        session.drop((0,))
        session.retell(Wanting((1, 2)).test)
        session.halve(calls=3)
        session.back()
        other = session.copy()
        for one in (session, other):
            one.again()
            self.assertEqual([one.back(), one.back(), one.back()], [(1, 2, 3), (1, 2, 3), (0, 1, 2, 3)])
            self.assertEqual(one.many(), 0)
            self.assertEqual(len(one), 2)
        self.assertTrue(session == other)

    def test_trials_stay_the_same_over_a_retell_that_is_taken_back(self):
        session = Session(Wanting((1,)).test, 4)
        session.retell(Wanting((1, 2)).test)
        other = session.copy()
        # Of the copy, too, DEEDS ahead of the retell and behind it have the TRIALS as they were left.
        other.drop((0,))
        other.back()
        other.back()
        other.drop((2,))
        other.back()
        self.assertEqual(len(other), 2)
        self.assertEqual(len(session), 1)
        session.back()
        self.assertEqual(len(session), 1)

    def test_told_lists_are_the_askers_own(self):
        session = Session(Wanting((1,)).test, 3)
        session.drop((0,))
        ahead = told_by(session)
        lists = [session.rows(), session.known_rows(), session.log()]
        for told in lists:
            told.clear()
        self.assertEqual(told_by(session), ahead)
        rows = session.rows()
        log = session.log()
        session.drop((2,))
        self.assertEqual((rows, log), (ahead["rows"], ahead["log"]))


class SameTests(unittest.TestCase):

    def test_the_same(self):
        one, two = Session(Wanting((1,)).test, 3), Session(Wanting((1,)).test, 3, most=50)
        self.assertTrue(one == two)
        self.assertFalse(one != two)
        one.drop((0,))
        self.assertFalse(one == two)
        two.drop((0,))
        self.assertTrue(one == two)

    def test_each_counts(self):
        def made(count=3, deeds=(), tell=Wanting((1,)).tell):
            session = Session(tell, count)
            for deed in deeds:
                deed(session)
            return session

        def drop_first(session):
            session.drop((0,))

        def drop_none(session):
            session.drop(())

        def drop_last(session):
            session.drop((2,))
        self.assertFalse(made(3) == made(4))
        self.assertFalse(made(3, [drop_none]) == made(3))
        self.assertTrue(made(3, [drop_none]) == made(3, [drop_none]))
        self.assertFalse(made(3, [drop_first]) == made(3, [drop_none]))
        self.assertFalse(made(3, [drop_first]) == made(3, [drop_last]))
        # What is known is the same, and the LOG is, but C isn't.
        one = made(3, [drop_first, drop_last, Session.back, Session.back, drop_first])
        two = made(3, [drop_first, drop_last, Session.back, Session.back, drop_none])
        self.assertEqual((one.known_rows(), one.log()), (two.known_rows(), two.log()))
        self.assertFalse(one == two)
        # C is the same, and the LOG is, but what is known isn't.
        one, two = made(3), made(3)
        one.paper()
        self.assertEqual((one.stands(), one.log()), (two.stands(), two.log()))
        self.assertFalse(one == two)
        # ROWS, how far the HALVING is, and what can be taken back don't count.
        one = made(3, [lambda session: session.halve(calls=1), Session.back])
        two = made(3, [lambda session: session.halve(calls=1), lambda session: session.halve(calls=0)])
        self.assertNotEqual(one.many(), two.many())
        self.assertTrue(one == two)

    def test_with_anything_else(self):
        session = Session(Wanting((1,)).test, 3)
        for at, thing in enumerate([thing for thing in things() if type(thing).__eq__ in (
                object.__eq__, tuple.__eq__, list.__eq__, dict.__eq__, int.__eq__, bytes.__eq__)]):
            with self.subTest(at=at):
                self.assertFalse(session == thing)
                self.assertTrue(session != thing)
        self.assertFalse(session == Trials(Wanting((1,)).test))

    def test_all_few_sessions(self):
        for parts in configurations(3):
            one, two = Session(Wanting(()).test, 3), Session(Wanting(()).test, 3)
            one.drop(parts)
            two.drop(parts)
            self.assertTrue(one == two)


if __name__ == "__main__":
    unittest.main()

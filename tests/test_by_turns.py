"""The same TRIALS handed to several functions, by turns [0], [4], [6] to [11], [13], [15]."""

import random
import unittest

from leastfail.cutting import cut_down, quick
from leastfail.errors import Gone
from leastfail.halving import Halving, halved
from leastfail.isolating import isolated
from leastfail.papers import check_isolated, check_least, isolated_paper, least_paper
from leastfail.small import bottoms, breach, is_monotone
from leastfail.trials import Trials
from tests.tables import Drawn, Told, Wanting, within


def go_all(trials, parts):
    """A HALVING gone one by one."""
    halving = Halving(trials, parts)
    while not halving.go():
        pass
    return halving.stands(), halving.many()


def asks(tell, parts, chance):
    """What may be ASKED of a TEST that FAILS of a CONFIGURATION, by name, each of TRIALS alone."""
    failing = [one for one in within(parts) if tell(one) == "fail"]
    passing = [one for one in within(parts) if tell(one) == "pass"]
    some = chance.choice(failing)
    pairs = [(one, two) for one in passing for two in failing if set(one) < set(two)]
    found = {
        "halved": lambda trials: halved(trials, some),
        "go": lambda trials: go_all(trials, parts),
        "cut_down": lambda trials: cut_down(trials, some),
        "quick": lambda trials: quick(trials, parts),
        "least_paper": lambda trials: least_paper(trials, cut_down(trials, parts)),
        "no_paper": lambda trials: least_paper(trials, some),
        "bottoms": lambda trials: bottoms(trials, 4),
        "breach": lambda trials: breach(trials, 4),
        "is_monotone": lambda trials: is_monotone(trials, 4),
    }
    if pairs:
        one, two = chance.choice(pairs)
        found["isolated"] = lambda trials: isolated(trials, two, passing=one)
        found["isolated_paper"] = lambda trials: isolated_paper(trials, *isolated(trials, two, passing=one))
    return found


def samples(chance):
    for at in range(40):
        yield Drawn(at, (0, 1, 2, 3, 4, 5), chance.choice([(1, 1, 1), (2, 1, 1), (1, 4, 4)])), (0, 1, 2, 3, 4, 5)
        yield Wanting(*[chance.sample(range(6), 3) for _ in range(3)], (0, 5)), (0, 1, 2, 3, 4, 5)


class ByTurnsTests(unittest.TestCase):

    def test_each_tells_what_it_tells_alone_and_none_is_called_twice(self):
        chance = random.Random("turns")
        for told, parts in samples(chance):
            calls = asks(told.tell, parts, chance)
            alone = {name: calls[name](Trials(told.tell)) for name in calls}
            for _ in range(3):
                told.calls.clear()
                trials = told.trials()
                names = list(calls) * 2
                chance.shuffle(names)
                for name in names:
                    self.assertEqual(calls[name](trials), alone[name], name)
                self.assertEqual(len(told.calls), len(set(told.calls)))
                self.assertEqual([one for one, _ in trials.rows()], told.calls)

    def test_others_of_the_same_test_know_all(self):
        chance = random.Random("others")
        for told, parts in samples(chance):
            calls = asks(told.tell, parts, chance)
            trials = told.trials()
            found = {name: calls[name](trials) for name in calls}
            many = len(told.calls)
            other = trials.same_test()
            self.assertEqual({name: calls[name](other) for name in calls}, found)
            self.assertEqual((len(told.calls), len(other)), (many, 0))

    def test_papers_come_out_by_what_others_called(self):
        chance = random.Random("papers")
        for told, parts in samples(chance):
            trials = told.trials()
            for call in (halved, cut_down):
                paper = least_paper(trials, call(trials, parts))
                self.assertIs(check_least(trials.known_rows(), paper), True)
            if trials.ask(()) == "pass":
                paper = isolated_paper(trials, *isolated(trials, parts))
                self.assertIs(check_isolated(trials.known_rows(), paper), True)

    def test_stopped_now_and_then_all_come_to_the_same(self):
        chance = random.Random("stopped")
        for told, parts in samples(chance):
            calls = asks(told.tell, parts, chance)
            alone = {name: calls[name](Trials(told.tell)) for name in calls}

            def tell(asked):
                if chance.random() < 0.2:
                    raise Gone("now")
                return told.tell(asked)
            trials = Told(tell).trials()
            names = list(calls) * 2
            while names:
                name = chance.choice(names)
                try:
                    self.assertEqual(calls[name](trials), alone[name])
                except Gone:
                    continue
                names.remove(name)
            rows = [one for one, _ in trials.rows()]
            self.assertEqual(len(rows), len(set(rows)))


if __name__ == "__main__":
    unittest.main()

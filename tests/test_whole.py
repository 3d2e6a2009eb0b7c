"""The whole program: of drawn CASES and RULES, all that is told fits together [0] to [70]."""

import random
import unittest

from leastfail.cases import Case, cut, full, is_within
from leastfail.choosing import better
from leastfail.closing import check_closed, closed_down, closed_paper
from leastfail.cutting import cut_down, quick
from leastfail.desk import Desk
from leastfail.errors import Gone
from leastfail.grammars import Grammar
from leastfail.halving import Halving, halved
from leastfail.isolating import isolated
from leastfail.links import closure, is_closed, links_of
from leastfail.papers import check_isolated, check_least, isolated_paper, least_paper
from leastfail.pruning import check_cuts, cut_down_tree, cut_paper, pruned
from leastfail.rules import holds, teller, text_teller
from leastfail.sessions import Session
from leastfail.small import bottoms, breach, is_monotone
from leastfail.texttrials import TextTrials
from leastfail.trees import is_tree, read_tree, text_of
from leastfail.trials import Trials
from tests.languages import LISTS, NEST
from tests.tables import Told, configurations
from tests.test_pruning import greater_tree, tokens_in
from tests.test_rules import drawn_rule
from tests.test_rules import text_of as rule_text

WORDS = ["a", "b", "c", "d"]


def drawn_case(chance, most):
    """A CASE of lines of a few words."""
    lines = [chance.choices(WORDS, k=chance.randint(1, 3)) for _ in range(chance.randint(0, most))]
    return cut("".join(" ".join(line) + "\n" for line in lines))


def drawn_teller(chance, case):
    """A TELLER by chance that FAILS of the whole CASE."""
    while True:
        rules = [drawn_rule(chance, 2, WORDS) for _ in range(chance.randint(1, 2))]
        text = " ; ".join(rule_text(rule) for rule in rules)
        if teller(case, text)(full(len(case))) == "fail":
            return text


def samples(seed, many, most=6):
    """CASES, TELLERS and their TESTS by chance, and some that few are like: not MONOTONE, of several BOTTOMS."""
    chance = random.Random(seed)
    for text in ("either many a 3 both has a lacks b", "either ahead a b both has c not many c 2"):
        case = cut("a\na c\nb\na\nc\nc b\n")
        yield chance, case, text, teller(case, text)
    for _ in range(many):
        case = drawn_case(chance, most)
        text = drawn_teller(chance, case)
        yield chance, case, text, teller(case, text)


def ways(links):
    """What may be asked of TRIALS of a TEST that FAILS of all of so many pieces, by name."""
    return {
        "halved": lambda trials, count: halved(trials, full(count)),
        "cut_down": lambda trials, count: cut_down(trials, full(count)),
        "quick": lambda trials, count: quick(trials, full(count)),
        "better": lambda trials, count: better(trials, full(count)),
        "closed_down": lambda trials, count: closed_down(trials, links, full(count)),
        "open_down": lambda trials, count: closed_down(trials, (), full(count)),
        "bottoms": bottoms,
        "breach": breach,
        "is_monotone": is_monotone,
        "paper": lambda trials, count: least_paper(trials, halved(trials, full(count))),
        "closed_paper": lambda trials, count: closed_paper(trials, links, closed_down(trials, links, full(count))),
    }


class WholeTests(unittest.TestCase):

    def test_what_ways_tell_fits_together(self):
        seen = set()
        for chance, case, text, test in samples("fit", 150):
            count = len(case)
            trials = Trials(test)
            found = {name: way(trials, count) for name, way in ways(links_of(case)).items()}
            low = found["bottoms"]
            for name in ("halved", "cut_down", "quick", "better", "closed_down"):
                self.assertEqual(test(found[name]), "fail")
                self.assertTrue(any(is_within(one, found[name]) for one in low))
            for name in ("halved", "cut_down", "better"):
                paper = least_paper(trials, found[name])
                self.assertIs(check_least(trials.known_rows(), paper), True)
            for one in low:
                self.assertIsNotNone(least_paper(trials, one))
            self.assertEqual(found["open_down"], found["cut_down"])
            self.assertIn(found["better"], (found["halved"], found["cut_down"]))
            self.assertEqual(len(found["better"]), min(len(found["halved"]), len(found["cut_down"])))
            self.assertIs(is_closed(links_of(case), found["closed_down"]), True)
            self.assertIs(check_closed(links_of(case), trials.known_rows(), found["closed_paper"]), True)
            if found["is_monotone"]:
                self.assertIsNone(found["breach"])
                self.assertEqual(found["quick"], found["cut_down"])
                for name in ("halved", "cut_down", "quick", "better"):
                    self.assertIn(found[name], low)
                if len(low) == 1:
                    self.assertEqual({found[name] for name in ("halved", "cut_down", "quick", "better")}, set(low))
            seen.add((found["is_monotone"], len(low) == 1))
        self.assertEqual(len(seen), 4)

    def test_one_and_the_same_trials_by_turns(self):
        for chance, case, text, test in samples("turns", 60):
            count = len(case)
            calls = ways(links_of(case))
            alone = {name: way(Trials(test), count) for name, way in calls.items()}
            told = Told(test)
            trials = told.trials()
            names = list(calls) * 2
            chance.shuffle(names)
            for name in names:
                self.assertEqual(calls[name](trials, count), alone[name], name)
            self.assertEqual(len(told.calls), len(set(told.calls)))
            self.assertEqual(trials.rows(), [(parts, test(parts)) for parts in told.calls])
            other = trials.same_test()
            self.assertEqual({name: way(other, count) for name, way in calls.items()}, alone)
            self.assertEqual(len(other), 0)

    def test_stopped_now_and_then_all_come_to_the_same(self):
        for chance, case, text, test in samples("stopped", 40):
            count = len(case)
            calls = ways(links_of(case))

            def tell(parts):
                if chance.random() < 0.2:
                    raise Gone("now")
                return test(parts)
            trials = Trials(tell)
            names = list(calls)
            while names:
                name = chance.choice(names)
                try:
                    self.assertEqual(calls[name](trials, count), calls[name](Trials(test), count))
                except Gone:
                    continue
                names.remove(name)

    def test_what_a_session_comes_to(self):
        for chance, case, text, test in samples("sessions", 100):
            count = len(case)
            session = Session(test, count)
            for _ in range(chance.randint(0, 4)):
                session.drop(tuple(sorted(chance.sample(range(count), min(count, 2)))))
            begin = session.stands()
            session.halve(calls=1000)
            self.assertEqual(session.stands(), halved(Trials(test), begin))
            self.assertEqual(session.paper(), least_paper(Trials(test), session.stands()))
            self.assertIs(check_least(session.known_rows(), session.paper()), True)
            links = links_of(case)
            over = closure(links, session.stands())
            if test(over) == "fail":
                self.assertEqual(session.close(links), closed_down(Trials(test), links, over))
            other = Session(test, count)
            self.assertEqual(other.close(()), cut_down(Trials(test), full(count)))

    def test_a_session_tells_what_all_asked_anew_would_tell(self):
        for chance, case, text, test in samples("anew", 60):
            count = len(case)
            session = Session(test, count)
            second = teller(case, drawn_teller(chance, case))
            session.halve(calls=chance.randint(0, 9))
            session.retell(second)
            session.halve(calls=1000)
            end = session.stands()
            session.back()
            anew = Session(second, count)
            anew.drop(tuple(number for number in range(count) if number not in session.stands()))
            anew.halve(calls=1000)
            self.assertEqual(anew.stands(), end)
            session.back()
            session.halve(calls=1000)
            self.assertEqual(session.stands(), halved(Trials(test), full(count)))

    def test_pairs(self):
        many = 0
        for _, case, text, test in samples("pairs", 100):
            trials = Trials(test)
            if trials.ask(()) == "pass":
                many += 1
                passing, failing = isolated(trials, full(len(case)))
                paper = isolated_paper(trials, passing, failing)
                self.assertIs(check_isolated(trials.known_rows(), paper), True)
        self.assertGreater(many, 20)

    def test_rules_hold_where_their_tests_fail(self):
        for _, case, text, test in samples("rules", 60):
            for parts in configurations(len(case))[::3]:
                self.assertEqual(test(parts) == "fail", holds(case, text.split(" ; ")[0], parts))

    def test_desks_tell_what_the_program_tells(self):
        chance = random.Random("desks")
        for _ in range(40):
            line = " ".join(chance.choice(WORDS) for _ in range(chance.randint(0, 9)))
            case = cut(line, by="words")
            text = drawn_teller(chance, case)
            desk = Desk()
            self.assertEqual([desk.say(told) for told in (f"case {line}", f"teller {text}", "begin")], ["done"] * 3)
            trials = Trials(teller(case, text))
            end = halved(trials, full(len(case)))
            self.assertEqual(desk.say("halve 1000000"), " ".join(["done", *map(str, end)]))
            self.assertEqual(desk.say("text"), case.joined(end))
            self.assertEqual(desk.say("calls"), str(len(trials)))
            desk.say("back")
            end = cut_down(trials, full(len(case)))
            self.assertEqual(desk.say("close"), " ".join(["done", *map(str, end)]))

    def test_trees_and_tellers(self):
        chance = random.Random("trees")
        many = 0
        for text in (LISTS, NEST) * 10:
            grammar = Grammar(text)
            tree = greater_tree(text, chance, 25)
            words = sorted(set(tokens_in(tree)) - {";"})
            rule = rule_text(drawn_rule(chance, 2, words))
            test = text_teller(rule)
            told = Told(test)
            trials = TextTrials(told.test)
            if not trials.fails(text_of(tree)):
                continue
            many += 1
            ends = [way(trials, grammar, tree) for way in (pruned, cut_down_tree, pruned)]
            self.assertEqual(ends[0], ends[2])
            self.assertEqual(len(told.calls), len(set(told.calls)))
            for end in ends:
                self.assertIs(is_tree(grammar, end, name=tree[0]), True)
                self.assertIs(check_cuts(grammar, trials.known_rows(), cut_paper(trials, grammar, end)), True)
                self.assertEqual(read_tree(grammar, text_of(end), name=tree[0]), end)
                # A text's words are the PIECES of a CASE.
                case = Case(text_of(end).split(" "))
                self.assertIs(holds(case, rule), True)
        self.assertGreater(many, 5)

    def test_a_halving_and_a_session_by_the_same_calls(self):
        for _, case, text, test in samples("steps", 60):
            one, two = Told(test), Told(test)
            halving = Halving(one.trials(), full(len(case)))
            session = Session(two.test, len(case))
            while not session.is_over():
                self.assertEqual(session.halve(calls=2), halving.go(calls=2))
                self.assertEqual(session.stands(), halving.stands())
                self.assertEqual(one.calls, two.calls)


if __name__ == "__main__":
    unittest.main()

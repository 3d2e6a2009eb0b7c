"""LINKS, CLOSED ones, CLOSURES and FALLS, and a CASE's own LINKS [0], [2], [60]."""

import inspect
import random
import unittest

from leastfail.cases import Case, cut, full
from leastfail.links import closure, fall, is_closed, is_links, links_of, without_fall
from tests.anything import NO_CONFIGURATIONS, NO_NUMBERS, NO_TEXTS, Hostile, deep_list, deep_tuple, shared_tuple, things
from tests.otherwise import is_same, others
from tests.refusals import RefusalTests
from tests.tables import configurations, less, within

NO_LINKS = things() + ["", "01", 0, 1, [], [(0, 1)], ((0, 1), None), ((0, 1), [1, 2]), ((0,),), ((0, 1, 2),), (0, 1),
                       ((0, 0),), ((119, 119),), ((0, 120),), ((120, 0),), ((-1, 0),), ((0, -1),), ((0, 1), (0, 1)),
                       ((1, 0), (0, 1)), ((0, 2), (0, 1)), ((True, 0),), ((0, True),), ((False, 1),), ((0, "1"),),
                       (("0", "1"),), ("01",), ((0, 1), ()), {(0, 1)}, {(0, 1): True}, ((0, None),), ((0, 10 ** 30),),
                       ((0, deep_tuple()),), ((deep_tuple(), 0),), ((0, 1), deep_tuple()), ((0, shared_tuple()),),
                       ((0, deep_list()),), ((Hostile(), 0),), ((0, Hostile()),), ((0, 1),) * 100000]
RING = ((0, 1), (1, 2), (2, 0))
CHAIN = tuple((number, number - 1) for number in range(1, 120))
ALL = tuple((one, two) for one in range(120) for two in range(120) if one != two)


def drawn_links(chance, count, many):
    """LINKS of so many pieces by chance, of at most so many pairs."""
    pairs = [(one, two) for one in range(count) for two in range(count) if one != two]
    return tuple(sorted(chance.sample(pairs, min(len(pairs), chance.randint(0, many)))))


def hanging(links):
    """All pairs (A, B), A hanging on B, found by going through each number that may stand between."""
    below = {}
    for one, two in links:
        below.setdefault(one, set()).add(two)
    for between in list(below):
        for one in below:
            if between in below[one]:
                below[one] |= below[between]
    return {(one, two) for one in below for two in below[one]}


class InterfaceTests(unittest.TestCase):

    def test_arguments_and_defaults(self):
        for call, signature in ((is_links, "(thing, count=120)"), (closure, "(links, parts)"),
                                (without_fall, "(links, parts, number)"), (is_closed, "(links, parts)"),
                                (fall, "(links, number)"), (links_of, "(case)")):
            self.assertEqual(str(inspect.signature(call)), signature)

    def test_by_name(self):
        self.assertIs(is_links(count=2, thing=((0, 1),)), True)
        self.assertEqual(closure(parts=(0,), links=((0, 1),)), (0, 1))
        self.assertEqual(without_fall(number=1, parts=(0, 1, 2), links=((0, 1),)), (2,))
        self.assertIs(is_closed(parts=(0,), links=((0, 1),)), False)
        self.assertEqual(fall(number=1, links=((0, 1),)), (0, 1))
        self.assertEqual(links_of(case=Case(["a", "b a"])), ((1, 0),))


class IsLinksTests(unittest.TestCase):

    def test_right_ones(self):
        for links in ((), ((0, 1),), ((1, 0),), ((0, 1), (1, 0)), ((0, 119), (119, 0)), RING, CHAIN, ALL):
            self.assertIs(is_links(links), True)
            self.assertIs(is_links(links, 120), True)

    def test_of_count(self):
        self.assertIs(is_links((), 0), True)
        for count in range(6):
            for links in (((0, 1),), ((1, 0),), ((0, 3),), ((3, 0),), ((0, 1), (4, 0)), ((0, 1), (0, 4))):
                highest = max(number for pair in links for number in pair)
                self.assertIs(is_links(links, count), highest < count)

    def test_with_one_thing_otherwise(self):
        for links in ((), ((0, 1),), ((0, 1), (0, 2), (5, 3)), RING):
            for other in others(links):
                among = isinstance(other, tuple) and is_right(other)
                self.assertIs(is_links(other), among)

    def test_of_anything(self):
        for count in (0, 3, 120):
            for at, thing in enumerate(NO_LINKS):
                with self.subTest(at=at):
                    self.assertIs(is_links(thing, count), False)
                    self.assertIs(is_links(([thing],), count), False)
                    self.assertIs(is_links(((0, (thing,)),), count), False)
        for at, thing in enumerate(NO_NUMBERS):
            with self.subTest(at=at):
                self.assertIs(is_links(((0, thing),)), False)
                self.assertIs(is_links(((thing, 0),)), False)
                self.assertIs(is_links(((0, 1), (1, thing))), False)


def is_right(links):
    """Whether a tuple is LINKS of 120 pieces, by looking it up among all of few numbers and a few more."""
    numbers = [*range(8), 119]
    small = {(one, two) for one in numbers for two in numbers if one != two}
    if not all(type(pair) is tuple and len(pair) == 2 and {type(one) for one in pair} == {int} for pair in links):
        return False
    return set(links) <= small and is_same(links, tuple(sorted(set(links))))


class ClosureTests(RefusalTests):

    def test_drawn_links_of_few_pieces(self):
        chance = random.Random("closure")
        for count in (0, 1, 2, 3, 4, 5):
            for _ in range(25):
                links = drawn_links(chance, count, 7)
                pairs = hanging(links)
                closed = [parts for parts in configurations(count)
                          if all(two in parts for one, two in pairs if one in parts)]
                for parts in configurations(count):
                    self.assertIs(is_closed(links, parts), parts in closed)
                    over = [one for one in closed if set(parts) <= set(one)]
                    if count:
                        self.assertEqual(closure(links, parts), min(over, key=len))
                for number in range(count):
                    falls = tuple(sorted({number, *[one for one, two in pairs if two == number]}))
                    self.assertEqual(fall(links, number), falls)
                    for parts in configurations(count):
                        self.assertEqual(without_fall(links, parts, number), less(parts, falls))
                        if parts in closed:
                            self.assertIn(without_fall(links, parts, number), closed)

    def test_links_of_none(self):
        for parts in ((), (3,), full(120)):
            self.assertEqual(closure((), parts), parts)
            self.assertIs(is_closed((), parts), True)
        for number in (0, 5, 119):
            self.assertEqual(fall((), number), (number,))
            self.assertEqual(without_fall((), full(120), number), less(full(120), (number,)))

    def test_a_ring(self):
        for parts in within((0, 1, 2)):
            self.assertEqual(closure(RING, parts), (0, 1, 2) if parts else ())
            self.assertIs(is_closed(RING, parts), parts in ((), (0, 1, 2)))
        for number in range(3):
            self.assertEqual(fall(RING, number), (0, 1, 2))
            self.assertEqual(without_fall(RING, (0, 1, 2, 3), number), (3,))
            self.assertEqual(without_fall(RING, (0, 2), number), ())

    def test_a_chain_of_120(self):
        for number in (0, 1, 60, 118, 119):
            self.assertEqual(closure(CHAIN, (number,)), tuple(range(number + 1)))
            self.assertEqual(fall(CHAIN, number), tuple(range(number, 120)))
            self.assertEqual(without_fall(CHAIN, full(120), number), tuple(range(number)))
            self.assertIs(is_closed(CHAIN, tuple(range(number + 1))), True)
            self.assertIs(is_closed(CHAIN, (number,)), number == 0)
        other = tuple((number, number + 1) for number in range(119))
        for number in (0, 1, 60, 118, 119):
            self.assertEqual(closure(other, (number,)), tuple(range(number, 120)))
            self.assertEqual(fall(other, number), tuple(range(number + 1)))

    def test_all_links(self):
        self.assertEqual(closure(ALL, (7,)), full(120))
        self.assertEqual(closure(ALL, ()), ())
        self.assertEqual(fall(ALL, 7), full(120))
        self.assertEqual(without_fall(ALL, (5, 6), 7), ())

    def test_both_ways(self):
        links = ((1, 0), (2, 1), (3, 1), (4, 2), (4, 3))
        self.assertEqual(closure(links, (2,)), (0, 1, 2))
        self.assertEqual(closure(links, (4,)), (0, 1, 2, 3, 4))
        self.assertEqual(closure(links, (2, 9)), (0, 1, 2, 9))
        self.assertEqual(fall(links, 2), (2, 4))
        self.assertEqual(fall(links, 1), (1, 2, 3, 4))
        self.assertEqual(without_fall(links, (0, 1, 2, 3, 4), 3), (0, 1, 2))

    def test_what_hangs_on_it_by_what_is_not_there(self):
        # 4 hangs on 2 by 3, which isn't there itself.
        links = ((3, 2), (4, 3))
        self.assertEqual(without_fall(links, (1, 2, 4), 2), (1,))
        self.assertIs(is_closed(links, (2, 4)), False)

    def test_a_number_that_is_not_there(self):
        links = ((1, 0), (2, 1))
        self.assertEqual(without_fall(links, (1, 2, 5), 0), (5,))
        self.assertEqual(without_fall(links, (5,), 0), (5,))
        self.assertEqual(without_fall(links, (), 119), ())

    def test_refused(self):
        bounds = [-1, 120, 121, 10 ** 30, -10 ** 30]
        for call in (closure, is_closed):
            self.all_refused("links", lambda thing: call(thing, (0, 1)), NO_LINKS)
            self.all_refused("links", lambda thing: call(thing, thing), NO_LINKS)
            self.all_refused("parts", lambda thing: call(RING, thing), NO_CONFIGURATIONS)
        self.all_refused("links", lambda thing: fall(thing, 0), NO_LINKS)
        self.all_refused("links", lambda thing: fall(thing, None), NO_LINKS)
        self.all_refused("number", lambda thing: fall(RING, thing), NO_NUMBERS + bounds)
        self.all_refused("links", lambda thing: without_fall(thing, (0,), 0), NO_LINKS)
        self.all_refused("links", lambda thing: without_fall(thing, None, None), NO_LINKS)
        self.all_refused("parts", lambda thing: without_fall(RING, thing, 0), NO_CONFIGURATIONS)
        self.all_refused("parts", lambda thing: without_fall(RING, thing, thing), NO_CONFIGURATIONS)
        self.all_refused("number", lambda thing: without_fall(RING, (0,), thing), NO_NUMBERS + bounds)


def own_links(pieces):
    """The LINKS of a CASE of these PIECES, each WORD looked up from its PIECE back."""
    words = [piece.replace("\n", " ").split() for piece in pieces]
    found = set()
    for number, row in enumerate(words):
        for used in row[1:]:
            ahead = [other for other in range(number) if words[other] and words[other][0] == used]
            found |= {(number, ahead[-1])} if ahead else set()
    return tuple(sorted(found))


class LinksOfTests(RefusalTests):

    def test_one_case(self):
        case = cut("x 1\ny x\nz x y\nx z\nw x\n", by="lines")
        self.assertEqual(links_of(case), ((1, 0), (2, 0), (2, 1), (3, 2), (4, 3)))

    def test_the_last_one_ahead_counts(self):
        self.assertEqual(links_of(Case(["x", "x", "y x", "x", "z x"])), ((2, 1), (4, 3)))

    def test_what_it_tells_itself(self):
        self.assertEqual(links_of(Case(["x x"])), ())
        self.assertEqual(links_of(Case(["x x", "x x", "x x"])), ((1, 0), (2, 1)))

    def test_what_stands_behind_alone(self):
        self.assertEqual(links_of(Case(["y x", "x"])), ())
        self.assertEqual(links_of(Case(["y x", "x", "y x"])), ((2, 1),))

    def test_pieces_of_no_words(self):
        self.assertEqual(links_of(Case([])), ())
        self.assertEqual(links_of(Case([""])), ())
        self.assertEqual(links_of(Case(["x", "", " ", "\n", " \n ", "y x"])), ((5, 0),))

    def test_blanks_and_line_ends_about_words(self):
        self.assertEqual(links_of(Case(["  x\n", "\n y\n\nx  ", "\n\nz  x\ny "])), ((1, 0), (2, 0), (2, 1)))
        self.assertEqual(links_of(Case(["x", "y x;", "z xx", "w X"])), ())

    def test_each_pair_once(self):
        self.assertEqual(links_of(Case(["x", "y x x\nx", "z y x y"])), ((1, 0), (2, 0), (2, 1)))

    def test_rising(self):
        self.assertEqual(links_of(Case(["a", "b", "c", "d c b a", "e d a c"])),
                         ((3, 0), (3, 1), (3, 2), (4, 0), (4, 2), (4, 3)))

    def test_all_120(self):
        pieces = [f"w{at} w{at - 1}" for at in range(120)]
        self.assertEqual(links_of(Case(pieces)), CHAIN)

    def test_words_as_pieces_hang_on_nothing(self):
        self.assertEqual(links_of(cut("let x be x\nx", by="words")), ())

    def test_drawn_cases(self):
        chance = random.Random("cases")
        for _ in range(400):
            pieces = ["".join(chance.choice(["a", "b", "c", "ab", " ", " ", "\n", "  "])
                              for _ in range(chance.randint(0, 8))) for _ in range(chance.randint(0, 9))]
            links = links_of(Case(pieces))
            self.assertEqual(links, own_links(pieces))
            self.assertIs(is_links(links, len(pieces)), True)

    def test_refused(self):
        no_cases = [thing for thing in NO_TEXTS + ["x", ["x"]] if type(thing) is not Case]
        self.all_refused("case", links_of, no_cases)


if __name__ == "__main__":
    unittest.main()

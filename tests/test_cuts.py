"""PLACES in TREES, and ALLOWED CUTS [0], [54]."""

import inspect
import random
import unittest

from leastfail.cuts import cut_by, cuts_of, optional, places, thing_at
from leastfail.grammars import Grammar
from leastfail.trees import is_tree, read_tree, text_of
from tests.anything import NO_TEXTS, Hostile, deep_list, deep_tuple, endless_list, shared_tuple, things
from tests.languages import ALL, LISTS, MANY, NEST, ROUND, all_places, choices_of, right_cuts, tokens_in, trees_of
from tests.refusals import RefusalTests

MOST = {LISTS: 12, MANY: 6, NEST: 10, ROUND: 11}
NO_PLACES = things() + ["", "x", 0, 1, [], [0], [1, 0], (-1,), (0,), ("0",), (1.5,), (True, 0), (1, False), (10 ** 30,),
                        (1, 10 ** 30), (0,) * 10 ** 5, deep_tuple(), (deep_tuple(),), ((1, 0),), (1, deep_list())]
NO_CUTS = things() + ["", "drop", 0, [], ["drop", (1, 0)], ("drop",), ("drop", [1, 0]), ("drop", (True, 0)),
                      ("drop", (1, False)), ("drop", (1, 0), ()), ("Drop", (1, 0)), ("drop", (1,)), ("drop", ()),
                      ("drop", (9, 9)), ("drop", (1, 0), None), ("least", None), ("least", [0]), ("least", (9,)),
                      ("lift", ()), ("lift", (), ()), ("lift", (), [1]), ("lift", (1, 0), (9,)), (None, ()), ((), ()),
                      ("lift", (), (1, 0), ()), ("drop", deep_tuple()), ("lift", deep_tuple(), shared_tuple()),
                      ("lift", deep_list(), endless_list()), (deep_tuple(), (1, 0)), ("drop", Hostile()),
                      (Hostile(), (1, 0)), ("drop", (Hostile(), 0)), ("drop", (1, 10 ** 30)), ("drop", (0,) * 10 ** 5),
                      ("", (1, 0)), ("drop", (1, 0), (1, 0)), (b"drop", (1, 0)), ("least", (1, 0), ()),
                      ("raise", (), (1, 1, 1)), ("lift", (), (1, 1)), ("lift", (1, 1), (1,)),
                      ("lift", (), (1, 0, 1, 0))]


def repr_of(thing):
    """How a short tuple of numbers is shown, "" of all else."""
    return repr(thing) if type(thing) is tuple and len(thing) < 9 and {type(one) for one in thing} == {int} else ""


class InterfaceTests(unittest.TestCase):

    def test_arguments(self):
        for call, signature in ((places, "(tree)"), (optional, "(tree)"), (thing_at, "(tree, place)"),
                                (cuts_of, "(grammar, tree)"), (cut_by, "(grammar, tree, cut)")):
            self.assertEqual(str(inspect.signature(call)), signature)

    def test_by_name(self):
        grammar = Grammar(LISTS)
        tree = read_tree(grammar, "( x ; )")
        self.assertEqual(places(tree=tree), [(), (1, 0)])
        self.assertEqual(optional(tree=tree), [(1, 0)])
        self.assertEqual(thing_at(place=(1, 0), tree=tree), ("ITEM", 0, ("x", (), ";")))
        self.assertEqual(cuts_of(tree=tree, grammar=grammar), [("drop", (1, 0)), ("least", ())])
        self.assertEqual(text_of(cut_by(cut=("drop", (1, 0)), tree=tree, grammar=grammar)), "( )")


class PlaceTests(RefusalTests):

    def test_all_trees(self):
        for text in ALL:
            for name in choices_of(text):
                for tree, _ in trees_of(text, name, MOST[text])[::5 if text == NEST else 1]:
                    found = all_places(text, tree)
                    trees = [place for place, (thing, _) in found.items() if isinstance(thing, tuple)]
                    self.assertEqual(places(tree), sorted(trees))
                    self.assertEqual(optional(tree), sorted(place for place, (_, marked) in found.items() if marked))
                    for place, (thing, _) in found.items():
                        self.assertEqual(thing_at(tree, place), thing)

    def test_one_tree(self):
        tree = read_tree(Grammar(LISTS), "( x ; [ ( x bang ; ) ] x bang ; )")
        self.assertEqual(places(tree), [(), (1, 0), (1, 1), (1, 1, 1), (1, 1, 1, 1, 0), (1, 2)])
        self.assertEqual(optional(tree), [(1, 0), (1, 1), (1, 1, 1, 1, 0), (1, 1, 1, 1, 0, 1, 0), (1, 2), (1, 2, 1, 0)])
        self.assertEqual(thing_at(tree, ()), tree)
        self.assertEqual(thing_at(tree, (1, 2, 1, 0)), "bang")
        self.assertEqual(text_of(thing_at(tree, (1, 1, 1))), "( x bang ; )")

    def test_tokens_that_are_not_marked_have_no_place(self):
        tree = read_tree(Grammar(LISTS), "( x bang ; [ ( ) ] )")
        wrong = [(0,), (1,), (2,), (3,), (0, 0), (2, 0), (1, 2), (1, 0, 0), (1, 0, 1), (1, 0, 2), (1, 0, 1, 1),
                 (1, 0, 1, 0, 0), (1, 1, 0), (1, 1, 2), (1, 1, 1, 0), (1, 1, 1, 1), (1, 1, 1, 1, 0), (1, 1, 3), (99, 0)]
        self.all_refused("place", lambda thing: thing_at(tree, thing), wrong)

    def test_three_things_of_one_item(self):
        tree = read_tree(Grammar(MANY), "f t u a v t g h h h i")
        self.assertEqual(places(tree), [(), (1, 0), (1, 1), (1, 1, 1), (1, 2)])
        self.assertEqual(optional(tree), [(1, 0), (1, 1), (1, 2), (3, 0), (3, 1), (3, 2)])
        self.assertEqual([thing_at(tree, (3, at)) for at in range(3)], ["h", "h", "h"])

    def test_rising_with_more_than_ten(self):
        tree = read_tree(Grammar(LISTS), "( " + "x ; " * 15 + ")")
        self.assertEqual(optional(tree), [(1, at) for at in range(15)])
        self.assertEqual(places(tree), [()] + [(1, at) for at in range(15)])

    def test_as_deep_and_as_long_as_may_be(self):
        deep = read_tree(Grammar(MANY), "b " * 99 + "a")
        self.assertEqual(places(deep), [(1,) * at for at in range(100)])
        self.assertEqual(thing_at(deep, (1,) * 99), ("S", 0, ("a",)))
        self.refused("place", thing_at, deep, (1,) * 100)
        nested = read_tree(Grammar(MANY), "d " * 49 + "a" + " e" * 49)
        self.assertEqual(optional(nested), [(1, 0) * at for at in range(1, 50)])
        long = read_tree(Grammar(MANY), "f g " + "h " * 97 + "i")
        self.assertEqual(optional(long), [(3, at) for at in range(97)])
        self.assertEqual(thing_at(long, (3, 96)), "h")
        self.refused("place", thing_at, long, (3, 97))

    def test_place_of_anything(self):
        tree = read_tree(Grammar(LISTS), "( x bang ; [ ( ) ] )")
        # One of these, which is no CONFIGURATION, is a PLACE here.
        wrong = [thing for thing in NO_PLACES if repr_of(thing) != "(1, 0)"]
        self.assertEqual(len(wrong), len(NO_PLACES) - 1)
        self.all_refused("place", lambda thing: thing_at(tree, thing), wrong)

    def test_what_is_told_is_the_askers_own(self):
        tree = read_tree(Grammar(LISTS), "( x ; )")
        places(tree).clear()
        optional(tree).clear()
        cuts_of(Grammar(LISTS), tree).clear()
        self.assertEqual((places(tree), optional(tree)), ([(), (1, 0)], [(1, 0)]))
        self.assertEqual(len(cuts_of(Grammar(LISTS), tree)), 2)


class CutTests(RefusalTests):

    def right(self, text, tree):
        grammar = Grammar(text)
        rows = right_cuts(text, tree)
        self.assertEqual(cuts_of(grammar, tree), [cut for cut, _ in rows])
        for cut, right in rows:
            found = cut_by(grammar, tree, cut)
            self.assertEqual(found, right)
            self.assertIs(is_tree(grammar, found, name=tree[0]), True)
            self.assertLess(len(tokens_in(found)), len(tokens_in(tree)))

    def test_all_trees(self):
        for text, every in ((LISTS, 2), (MANY, 3), (NEST, 40), (ROUND, 1)):
            for name in choices_of(text):
                for tree, _ in trees_of(text, name, MOST[text])[::every]:
                    self.right(text, tree)

    def test_one_tree(self):
        grammar = Grammar(LISTS)
        tree = read_tree(grammar, "( x ; [ ( x bang ; ) ] x bang ; )")
        self.assertEqual([(cut, text_of(cut_by(grammar, tree, cut))) for cut in cuts_of(grammar, tree)], [
            (("drop", (1, 0)), "( [ ( x bang ; ) ] x bang ; )"),
            (("drop", (1, 1)), "( x ; x bang ; )"),
            (("drop", (1, 1, 1, 1, 0)), "( x ; [ ( ) ] x bang ; )"),
            (("drop", (1, 1, 1, 1, 0, 1, 0)), "( x ; [ ( x ; ) ] x bang ; )"),
            (("drop", (1, 2)), "( x ; [ ( x bang ; ) ] )"),
            (("drop", (1, 2, 1, 0)), "( x ; [ ( x bang ; ) ] x ; )"),
            (("least", ()), "( )"),
            (("least", (1, 1)), "( x ; x ; x bang ; )"),
            (("least", (1, 1, 1)), "( x ; [ ( ) ] x bang ; )"),
            (("least", (1, 1, 1, 1, 0)), "( x ; [ ( x ; ) ] x bang ; )"),
            (("least", (1, 2)), "( x ; [ ( x bang ; ) ] x ; )"),
            (("lift", (), (1, 1, 1)), "( x bang ; )"),
            (("lift", (1, 1), (1, 1, 0)), "( x ; x bang ; x bang ; )"),
        ])

    def test_trees_that_have_none(self):
        for text in ALL:
            grammar = Grammar(text)
            for name in grammar.names():
                self.assertEqual(cuts_of(grammar, grammar.least_tree(name)), [])

    def test_a_tree_of_as_few_tokens_as_the_least_is_not_cut_to_it(self):
        grammar = Grammar("S = ( T )\nT = x | y")
        self.assertEqual(cuts_of(grammar, read_tree(grammar, "( y )")), [])

    def test_great_trees(self):
        chance = random.Random("great")
        for text in (MANY, LISTS, NEST):
            grammar = Grammar(text)
            for _ in range(4):
                trees = [grammar.least_tree(name) for name in grammar.names()]
                for _ in range(300):
                    name = chance.choice(grammar.names())
                    place = chance.randrange(len(grammar.alternatives(name)))
                    parts = []
                    for item in grammar.alternatives(name)[place]:
                        plain = item.rstrip("?*")
                        fit = [tree for tree in trees if tree[0] == plain] or [plain]
                        many = 1 if plain == item else chance.randint(0, 1 if item[-1] == "?" else 3)
                        some = tuple(chance.choice(fit) for _ in range(many))
                        parts.append(some[0] if plain == item else some)
                    tree = (name, place, tuple(parts))
                    if len(tokens_in(tree)) <= 40:
                        trees.append(tree)
                self.right(text, max(trees, key=lambda tree: len(tokens_in(tree))))

    def test_as_deep_as_may_be(self):
        grammar = Grammar(MANY)
        deep = read_tree(grammar, "b " * 99 + "a")
        cuts = cuts_of(grammar, deep)
        leasts = [("least", (1,) * at) for at in range(99)]
        lifts = [("lift", (1,) * at, (1,) * much) for at in range(100) for much in range(1, 100 - at)]
        self.assertEqual(cuts, leasts + lifts)
        for cut in cuts[::500] + cuts[-1:]:
            self.assertIs(is_tree(grammar, cut_by(grammar, deep, cut), name="S"), True)
        self.assertEqual(text_of(cut_by(grammar, deep, ("lift", (1,) * 98, (1,)))), "b " * 98 + "a")
        nested = read_tree(grammar, "d " * 49 + "a" + " e" * 49)
        self.assertEqual(text_of(cut_by(grammar, nested, ("drop", (1, 0) * 49))), "d " * 49 + "e " * 48 + "e")

    def test_refused(self):
        grammar = Grammar(LISTS)
        tree = read_tree(grammar, "( x bang ; [ ( ) ] )")
        self.all_refused("grammar", lambda thing: cuts_of(thing, tree), NO_TEXTS + [LISTS])
        self.all_refused("grammar", lambda thing: cuts_of(thing, thing), NO_TEXTS + [LISTS])
        self.all_refused("grammar", lambda thing: cut_by(thing, None, None), NO_TEXTS + [LISTS])
        no_trees = NO_TEXTS + ["( )", "LIST", ("LIST", 0, ["(", (), ")"]), ("LIST", False, ("(", (), ")")),
                               ("S", 0, ("a",)), ("LIST", 0, ("(", (), "]")), ("LIST", 0, ("(", (tree,), ")"))]
        self.all_refused("tree", lambda thing: cuts_of(grammar, thing), no_trees)
        self.all_refused("tree", lambda thing: cut_by(grammar, thing, ("least", ())), no_trees)
        self.all_refused("tree", lambda thing: cut_by(grammar, thing, thing), no_trees)
        much = ("LIST", 0, ("(", (("ITEM", 0, ("x", (), ";")),) * 50, ")"))
        self.refused("tree", cuts_of, grammar, much)
        self.refused("tree", cut_by, grammar, much, ("drop", (1, 0)))

    def test_cut_of_anything(self):
        grammar = Grammar(LISTS)
        tree = read_tree(grammar, "( x bang ; [ ( ) ] )")
        self.assertEqual(cuts_of(grammar, tree), [("drop", (1, 0)), ("drop", (1, 0, 1, 0)), ("drop", (1, 1)),
                                                  ("least", ()), ("least", (1, 0)), ("least", (1, 1)),
                                                  ("lift", (), (1, 1, 1))])
        self.all_refused("cut", lambda thing: cut_by(grammar, tree, thing), NO_CUTS)
        least = grammar.least_tree()
        none = NO_CUTS + [("drop", (1, 0)), ("least", ())]
        self.all_refused("cut", lambda thing: cut_by(grammar, least, thing), none)
        for cut in cuts_of(grammar, tree):
            self.refused("cut", cut_by, grammar, tree, list(cut))
            self.refused("cut", cut_by, grammar, tree, cut + ((),))
            self.refused("cut", cut_by, grammar, tree, cut[:-1])
            self.refused("cut", cut_by, grammar, tree, cut[:-1] + (list(cut[-1]),))
            self.refused("cut", cut_by, grammar, tree, cut[:-1] + (cut[-1] + (0,),))
            if cut[-1]:
                self.refused("cut", cut_by, grammar, tree, cut[:-1] + (tuple(map(str, cut[-1])),))
                self.refused("cut", cut_by, grammar, tree, cut[:-1] + (tuple(map(bool, cut[-1])),))

    def test_the_tree_is_not_changed(self):
        grammar = Grammar(LISTS)
        tree = read_tree(grammar, "( x ; [ ( x bang ; ) ] x bang ; )")
        for cut in cuts_of(grammar, tree):
            cut_by(grammar, tree, cut)
        self.assertEqual(tree, read_tree(grammar, "( x ; [ ( x bang ; ) ] x bang ; )"))


if __name__ == "__main__":
    unittest.main()

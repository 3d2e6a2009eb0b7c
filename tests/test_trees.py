"""TREES, and texts READ as TREES [0], [51]."""

import inspect
import random
import unittest

from leastfail.errors import BadToken
from leastfail.grammars import Grammar
from leastfail.trees import MOST_TOKENS, is_tree, read_tree, text_of, tokens_of
from tests.anything import NO_TEXTS, Hostile, deep_list, deep_tuple, endless_list, shared_list, shared_tuple, things
from tests.languages import ALL, LISTS, MANY, NEST, ROUND, choices_of, sequences, tokens_in, trees_of, words_of
from tests.refusals import RefusalTests

MOST = {LISTS: 11, MANY: 6, NEST: 9, ROUND: 9}
NO_NAMES = NO_TEXTS + ["", "A", "list", "LISTS", "ITEM*", "LIST ", "x"]
STRANGE = [None, True, False, 0, 1, 2, -1, "", "x", "LIST", (), (()), ((),), [], {}, deep_tuple(), deep_list(),
           shared_tuple(), shared_list(), endless_list(), 10 ** 30, b"x", object(), Hostile()]


def same(thing, other):
    """Whether both are the same, of the very kinds."""
    if type(thing) is not type(other):
        return False
    if isinstance(thing, tuple):
        return len(thing) == len(other) and all(same(one, two) for one, two in zip(thing, other))
    return isinstance(thing, (str, int)) and thing == other


def is_plain(thing):
    """Whether a thing is of tuples, texts and numbers alone, and not so much that it can't be looked up."""
    ahead = [thing]
    for _ in range(1000):
        if not ahead:
            return True
        one = ahead.pop()
        if type(one) not in (tuple, str, int):
            return False
        ahead += one if isinstance(one, tuple) else ()
    return False


def others(tree, strange):
    """What is otherwise in one place than a thing of tuples is."""
    yield from strange
    if isinstance(tree, tuple):
        yield list(tree)
        yield tree + tree[-1:]
        yield tree + ("x",)
        for at in range(len(tree)):
            yield tree[:at] + tree[at + 1:]
            yield tree[:at] + tree[at:at + 1] + tree[at:]
            yield tree[:at] + (tree[at:at + 1],) + tree[at + 1:]
            for other in others(tree[at], strange):
                yield tree[:at] + (other,) + tree[at + 1:]
    elif isinstance(tree, int):
        yield from (tree + 1, tree - 1, bool(tree), str(tree))
    else:
        yield from (tree + " ", tree.upper(), tree.lower(), tree.encode())


def chain(many):
    """A TREE of MANY with so many TREES within one another, each with a TOKEN of its own."""
    tree = ("S", 0, ("a",))
    for _ in range(many - 1):
        tree = ("S", 1, ("b", tree))
    return tree


def row(many):
    """A TREE of MANY with so many TOKENS, most of them THINGS of one MARKED ITEM."""
    return ("S", 4, ("f", (), "g", ("h",) * (many - 3), "i"))


class InterfaceTests(unittest.TestCase):

    def test_arguments_defaults_and_stars(self):
        for call, signature in ((is_tree, "(grammar, thing, *, name=None)"),
                                (read_tree, "(grammar, text, *, name=None)"),
                                (tokens_of, "(tree)"), (text_of, "(tree)")):
            self.assertEqual(str(inspect.signature(call)), signature)
        self.assertEqual(MOST_TOKENS, 100)

    def test_by_name(self):
        grammar = Grammar(LISTS)
        tree = read_tree(text="x ;", name="ITEM", grammar=grammar)
        self.assertEqual(tree, ("ITEM", 0, ("x", (), ";")))
        self.assertIs(is_tree(name="ITEM", thing=tree, grammar=grammar), True)
        self.assertEqual(tokens_of(tree=tree), ["x", ";"])
        self.assertEqual(text_of(tree=tree), "x ;")


class TokensTests(unittest.TestCase):

    def test_all_trees(self):
        for text in ALL:
            for name in choices_of(text):
                for tree, count in trees_of(text, name, MOST[text]):
                    tokens = tokens_of(tree)
                    self.assertEqual(tokens, tokens_in(tree))
                    self.assertEqual(len(tokens), count)
                    self.assertEqual(text_of(tree), " ".join(tokens))

    def test_three_things_of_a_marked_item_are_no_tree(self):
        grammar = Grammar(MANY)
        for text in ("f g h h h i", "f t t t g i", "f t u a v t g h h i"):
            tree = read_tree(grammar, text)
            self.assertEqual(text_of(tree), text)

    def test_as_deep_and_as_long_as_may_be(self):
        self.assertEqual(tokens_of(chain(100)), ["b"] * 99 + ["a"])
        self.assertEqual(tokens_of(row(100)), ["f", "g"] + ["h"] * 97 + ["i"])

    def test_what_is_told_is_the_askers_own(self):
        tree = chain(3)
        tokens_of(tree).clear()
        self.assertEqual(tokens_of(tree), ["b", "b", "a"])


class IsTreeTests(RefusalTests):

    def test_all_trees(self):
        for text in ALL:
            grammar = Grammar(text)
            names = list(choices_of(text))
            for name in names:
                for tree, _ in trees_of(text, name, MOST[text]):
                    self.assertIs(is_tree(grammar, tree), True)
                    for other in names:
                        self.assertIs(is_tree(grammar, tree, name=other), name == other)

    def test_with_one_thing_otherwise(self):
        for text, most, every in ((LISTS, 8, 1), (MANY, 5, 9), (NEST, 7, 5), (ROUND, 7, 1)):
            grammar = Grammar(text)
            for name in choices_of(text):
                trees = [tree for tree, _ in trees_of(text, name, most + 3)]
                known = set(trees)
                strange = STRANGE + words_of(text) + list(choices_of(text)) + [(word,) for word in words_of(text)]
                strange += trees[:3] + [(tree,) for tree in trees[:2]]
                for tree, count in trees_of(text, name, most)[::every]:
                    for other in others(tree, strange):
                        self.right(grammar, other, name, known, most + 3)

    def right(self, grammar, thing, name, known, most):
        """It is a TREE of the NAME just where it is among those known, of the very kinds, unless it has too much."""
        among = is_plain(thing) and thing in known
        found = is_tree(grammar, thing, name=name)
        if found and not among:
            self.assertGreater(len(tokens_in(thing)), most)
        else:
            self.assertIs(found, among)

    def test_100_and_101_tokens(self):
        grammar = Grammar(MANY)
        for make in (chain, row):
            for many in (4, 50, 99, 100):
                self.assertIs(is_tree(grammar, make(many)), True)
                self.assertIs(is_tree(grammar, make(many), name="S"), True)
                self.assertIs(is_tree(grammar, make(many), name="T"), False)
            for many in (101, 102, 500, 5000):
                self.assertIs(is_tree(grammar, make(many)), False)
                self.assertIs(is_tree(grammar, make(many), name="S"), False)
        self.assertIs(is_tree(grammar, ("S", 2, ("c", chain(50), chain(49)))), True)
        self.assertIs(is_tree(grammar, ("S", 2, ("c", chain(50), chain(50)))), False)
        self.assertIs(is_tree(grammar, ("S", 2, ("c", row(49), row(50)))), True)
        self.assertIs(is_tree(grammar, ("S", 2, ("c", row(50), row(50)))), False)
        items = (("ITEM", 0, ("x", (), ";")),)
        self.assertIs(is_tree(Grammar(LISTS), ("LIST", 0, ("(", items * 49, ")"))), True)
        self.assertIs(is_tree(Grammar(LISTS), ("LIST", 0, ("(", items * 50, ")"))), False)

    def test_the_same_thing_within_it_many_times_over(self):
        grammar = Grammar(MANY)
        tree = ("S", 0, ("a",))
        for depth in range(1, 300):
            tree = ("S", 2, ("c", tree, tree))
            self.assertIs(is_tree(grammar, tree), 2 ** (depth + 1) - 1 <= 100)
        things_in = (("T", 0, ("t",)),) * 90
        for _ in range(200):
            things_in = (("T", 1, ("u", ("S", 4, ("f", things_in, "g", (), "i")), "v")),) * 90
        self.assertIs(is_tree(grammar, things_in[0]), False)

    def test_deep_down_wrong(self):
        for wrong in (deep_tuple(), deep_list(), None, "a", ("S", 0, ("b",)), ("S", True, ("b", chain(2))), Hostile()):
            tree = wrong
            for many in range(1, 120):
                tree = ("S", 1, ("b", tree))
                self.assertIs(is_tree(Grammar(MANY), tree), False)

    def test_of_anything(self):
        grammar = Grammar(LISTS)
        for at, thing in enumerate(things() + STRANGE + NO_NAMES):
            with self.subTest(at=at):
                for whole in (thing, (thing, thing, thing), ("LIST", thing, ("(", (), ")")), ("LIST", 0, thing),
                              (thing, 0, ("(", (), ")")), ("LIST", 0, (thing, (), ")")),
                              ("LIST", 0, ("(", (thing,), ")")),
                              ("LIST", 0, ("(", (), thing)), ["LIST", 0, ("(", (), ")")]):
                    right = same(whole, ("LIST", 0, ("(", (), ")")))
                    self.assertIs(is_tree(grammar, whole), right)
                    self.assertIs(is_tree(grammar, whole, name="LIST"), right)
                    self.assertIs(is_tree(grammar, whole, name="ITEM"), False)

    def test_many_marked(self):
        grammar = Grammar("A = a b? c d* e")
        for some in range(4):
            for many in range(4):
                tree = ("A", 0, ("a", ("b",) * some, "c", ("d",) * many, "e"))
                self.assertIs(is_tree(grammar, tree), some < 2)

    def test_refused(self):
        grammar = Grammar(LISTS)
        tree = grammar.least_tree()
        self.all_refused("grammar", lambda thing: is_tree(thing, tree), NO_TEXTS + [LISTS])
        self.all_refused("grammar", lambda thing: is_tree(thing, None, name=thing), NO_TEXTS + [LISTS])
        named = [thing for thing in NO_NAMES if thing is not None]
        self.all_refused("name", lambda thing: is_tree(grammar, tree, name=thing), named)
        self.all_refused("name", lambda thing: is_tree(grammar, thing, name=thing), named)
        self.assertIs(is_tree(grammar, tree, name=None), True)


class ReadTests(RefusalTests):

    def bad(self, place, grammar, text, **named):
        with self.assertRaises(BadToken) as caught:
            read_tree(grammar, text, **named)
        self.assertIs(type(caught.exception), BadToken)
        self.assertEqual((caught.exception.place, caught.exception.what), (place, "token"), text)

    def test_all_trees_by_their_texts(self):
        for text in ALL:
            grammar = Grammar(text)
            for name in choices_of(text):
                seen = set()
                for tree, _ in trees_of(text, name, MOST[text]):
                    told = text_of(tree)
                    self.assertNotIn(told, seen)
                    seen.add(told)
                    self.assertTrue(same(read_tree(grammar, told, name=name), tree))
                    if name == grammar.start():
                        self.assertTrue(same(read_tree(grammar, told), tree))
                        self.assertTrue(same(read_tree(grammar, told, name=None), tree))

    def places(self, text, name, most, rows):
        """Each row of words is READ, or refused, as by all TEXTS of at most so many TOKENS, which must be enough."""
        grammar = Grammar(text)
        texts = {tuple(tokens_in(tree)): tree for tree, _ in trees_of(text, name, most)}
        begins = {told[:many] for told in texts for many in range(len(told) + 1)}
        for words in rows:
            wrong = [many for many in range(1, len(words) + 1) if tuple(words[:many]) not in begins]
            if wrong:
                self.bad(wrong[0], grammar, " ".join(words), name=name)
            elif tuple(words) in texts:
                self.assertEqual(read_tree(grammar, " ".join(words), name=name), texts[tuple(words)])
            else:
                self.bad(len(words) + 1, grammar, " ".join(words), name=name)

    def test_every_row_of_few_tokens(self):
        for name in ("LIST", "ITEM"):
            self.places(LISTS, name, 12, sequences(words_of(LISTS) + ["y"], 4))
        for name in ("S", "T"):
            self.places(ROUND, name, 12, sequences(words_of(ROUND) + ["S"], 4))
            self.places(MANY, name, 8, sequences(words_of(MANY) + ["="], 3))
        for name in ("A", "B", "C"):
            self.places(NEST, name, 10, sequences(words_of(NEST), 3))

    def test_texts_with_one_thing_otherwise(self):
        chance = random.Random("texts")
        for name, most, text in (("LIST", 7, LISTS), ("ITEM", 7, LISTS), ("S", 7, ROUND)):
            rows = []
            for tree, _ in trees_of(text, name, most):
                words = tokens_in(tree)
                for at in range(len(words)):
                    rows += [words[:at], words[:at] + words[at + 1:], words[:at] + [words[at]] + words[at:]]
                    for word in words_of(text) + ["zz"]:
                        rows += [words[:at] + [word] + words[at:], words[:at] + [word] + words[at + 1:]]
                rows.append(words + [chance.choice(words_of(text))])
            self.places(text, name, 14, [words for words in rows if words])

    def test_100_and_101_tokens(self):
        grammar = Grammar(MANY)
        for make in (chain, row):
            self.assertEqual(read_tree(grammar, text_of(make(100))), make(100))
            for many in (101, 102, 150, 3000):
                self.bad(101, grammar, text_of(make(many)))
        self.bad(101, grammar, " ".join(["b"] * 100))
        self.bad(100, grammar, " ".join(["b"] * 99))
        self.bad(101, grammar, " ".join(["b"] * 101))
        self.bad(101, grammar, " ".join(["b"] * 5000))
        self.bad(101, grammar, " ".join(["c"] * 1000))

    def test_which_of_two_places_stands_ahead(self):
        grammar = Grammar(MANY)
        self.bad(100, grammar, " ".join(["b"] * 99 + ["i"] * 50))
        self.bad(101, grammar, " ".join(["b"] * 100 + ["i"] * 50))
        self.bad(101, grammar, " ".join(["b"] * 101 + ["i"] * 50))
        self.bad(101, grammar, text_of(chain(100)) + " a")
        self.bad(100, grammar, text_of(chain(99)) + " a")
        self.bad(100, grammar, text_of(chain(99)) + " a" * 50)
        self.bad(1, grammar, " ".join(["i"] * 200))

    def test_place_0(self):
        grammar = Grammar(MANY)
        for text in ("", " ", "  ", " a", "a ", "b  a", "i  i", " i", "b\na ", " b\na", "b  \na", "\n ", " \n",
                     "\n  \n", "a" + " " * 300, " ".join(["b"] * 200) + " ", "b\n" * 200 + " "):
            self.bad(0, grammar, text)
        for at, thing in enumerate(NO_TEXTS):
            with self.subTest(at=at):
                self.bad(0, grammar, thing)
                self.bad(0, grammar, thing, name="T")

    def test_a_line_end_is_a_sign_of_its_word(self):
        grammar = Grammar(MANY)
        for place, text in ((1, "\n"), (1, "a\n"), (1, "\na"), (1, "b\na"), (2, "b \na"), (2, "b a\n"), (2, "b \n a"),
                            (2, "b \n"), (1, "\n b a"), (3, "b b \n\n"), (1, "i\n"), (1, "b\n" * 200),
                            (100, "b " * 99 + "a\n"), (101, "b " * 100 + "a\n"), (101, "b " * 99 + "a \n")):
            self.bad(place, grammar, text)
        self.bad(1, grammar, "u a\nv", name="S")
        self.bad(2, grammar, "u a\nv", name="T")
        for text in ALL:
            for tree, _ in trees_of(text, Grammar(text).start(), 6):
                words = tokens_in(tree)
                for at in range(len(words)):
                    for word in (words[at] + "\n", "\n" + words[at], words[at][:1] + "\n" + words[at][1:]):
                        self.bad(at + 1, Grammar(text), " ".join(words[:at] + [word] + words[at + 1:]))
                    joined = words[:at] + ["\n".join(words[at:at + 2]) + "\n"] + words[at + 2:]
                    self.bad(at + 1, Grammar(text), " ".join(joined))

    def test_lacking_at_once(self):
        self.bad(2, Grammar(ROUND), "(")
        self.bad(1, Grammar(ROUND), "x")
        self.bad(2, Grammar(ROUND), "x x", name="T")

    def test_tokens_of_several_signs(self):
        grammar = Grammar("A = begin B* end\nB = if c then B else | skip12")
        text = "begin if c then skip12 else skip12 end"
        self.assertEqual(text_of(read_tree(grammar, text)), text)
        self.bad(2, grammar, "begin en")
        self.bad(2, grammar, "begin endif")
        self.bad(2, grammar, "begin End")

    def test_refused(self):
        grammar = Grammar(LISTS)
        self.all_refused("grammar", lambda thing: read_tree(thing, "( )"), NO_TEXTS + [LISTS])
        self.all_refused("grammar", lambda thing: read_tree(thing, None, name=thing), NO_TEXTS + [LISTS])
        named = [thing for thing in NO_NAMES if thing is not None]
        self.all_refused("name", lambda thing: read_tree(grammar, "( )", name=thing), named)
        self.all_refused("name", lambda thing: read_tree(grammar, None, name=thing), named)


if __name__ == "__main__":
    unittest.main()

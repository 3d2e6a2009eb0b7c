"""GRAMMARS, their refusals, COUNTS and LEAST TREES [0], [50], [52]."""

import inspect
import random
import re
import unittest

from leastfail.errors import BadRow, BadValue, NoEnd
from leastfail.grammars import Grammar, check_counts
from tests.anything import NO_NUMBERS, NO_TEXTS, deep_list, deep_tuple, endless_list, shared_tuple, things
from tests.languages import ALL, LISTS, MANY, choices_of, tokens_in, trees_of
from tests.refusals import RefusalTests

ITEM = r"(?:[A-Z]{1,8}|[^ \n=|?*A-Z]{1,8})[?*]?"
ROW = re.compile(rf"[A-Z]{{1,8}} =(?: {ITEM}){{1,10}}(?: \|(?: {ITEM}){{1,10}}){{0,7}}")


def right_by_form(row):
    """Which word of a row can't stand by its form, found by what can be put behind those ahead; or None."""
    words = row.split(" ")
    if "" in words:
        return 0
    for many in range(1, len(words) + 1):
        ends = ([], ["a"], ["=", "a"])
        if not any(ROW.fullmatch(" ".join(words[:many] + end)) for end in ends):
            return many
    return None if ROW.fullmatch(row) else len(words) + 1


def sample_of(many):
    """A GRAMMAR of so many rows."""
    names = [f"N{chr(65 + at // 26)}{chr(65 + at % 26)}" for at in range(many)]
    return "\n".join(f"{name} = a" for name in names)


class InterfaceTests(unittest.TestCase):

    def test_arguments_and_defaults(self):
        told = {
            Grammar: "(text)",
            Grammar.names: "(self)",
            Grammar.start: "(self)",
            Grammar.alternatives: "(self, name)",
            Grammar.begins: "(self, name)",
            Grammar.count_of: "(self, name)",
            Grammar.counts: "(self)",
            Grammar.least_tree: "(self, name=None)",
            check_counts: "(grammar, paper)",
        }
        for thing, signature in told.items():
            self.assertEqual(str(inspect.signature(thing)), signature)
            if thing not in (Grammar, check_counts):
                self.assertIn(thing.__name__, vars(Grammar))
        for name in ("__init__", "__eq__", "__str__", "__len__"):
            self.assertIn(name, vars(Grammar))

    def test_by_name(self):
        grammar = Grammar(text=LISTS)
        self.assertEqual(grammar.alternatives(name="LIST"), [["(", "ITEM*", ")"]])
        self.assertEqual(grammar.begins(name="ITEM"), ["x", "["])
        self.assertEqual(grammar.count_of(name="ITEM"), 2)
        self.assertEqual(grammar.least_tree(name="ITEM"), ("ITEM", 0, ("x", (), ";")))
        self.assertIs(check_counts(paper=grammar.counts(), grammar=grammar), True)


class GrammarTests(RefusalTests):

    def test_what_it_tells(self):
        grammar = Grammar(MANY)
        self.assertEqual(grammar.names(), ["S", "T"])
        self.assertEqual(grammar.start(), "S")
        self.assertEqual(grammar.alternatives("S"), [["a"], ["b", "S"], ["c", "S", "S"], ["d", "S?", "e"],
                                                     ["f", "T*", "g", "h*", "i"]])
        self.assertEqual(grammar.alternatives("T"), [["t"], ["u", "S", "v"]])
        self.assertEqual(grammar.begins("S"), ["a", "b", "c", "d", "f"])
        self.assertEqual(grammar.begins("T"), ["t", "u"])
        self.assertEqual(str(grammar), MANY)
        self.assertEqual(len(grammar), 2)

    def test_names_are_in_the_order_of_rows(self):
        self.assertEqual(Grammar("Z = a M\nB = b\nM = c B").names(), ["Z", "B", "M"])
        self.assertEqual(Grammar("Z = a M\nB = b\nM = c B").start(), "Z")

    def test_alike(self):
        for text in ALL:
            self.assertTrue(Grammar(text) == Grammar(text))
            self.assertFalse(Grammar(text) != Grammar(text))
        self.assertFalse(Grammar("A = a\nB = b") == Grammar("B = b\nA = a"))
        self.assertFalse(Grammar("A = a | b") == Grammar("A = b | a"))
        self.assertFalse(Grammar("A = a") == Grammar("A = a\nB = b"))
        for thing in things() + ["A = a", 1, (), []]:
            if type(thing).__name__ not in ("Hostile", "Alike"):
                self.assertFalse(Grammar("A = a") == thing)
                self.assertTrue(Grammar("A = a") != thing)

    def test_what_is_told_is_the_askers_own(self):
        grammar = Grammar(LISTS)
        grammar.names().clear()
        grammar.alternatives("ITEM").clear()
        grammar.alternatives("ITEM")[0].clear()
        grammar.begins("ITEM").clear()
        self.assertEqual(grammar.names(), ["LIST", "ITEM"])
        self.assertEqual(grammar.alternatives("ITEM"), [["x", "bang?", ";"], ["[", "LIST", "]"]])
        self.assertEqual(grammar.begins("ITEM"), ["x", "["])
        self.assertEqual(grammar.least_tree("ITEM"), ("ITEM", 0, ("x", (), ";")))

    def test_name(self):
        grammar = Grammar(LISTS)
        wrong = NO_TEXTS + ["", "A", "list", "LIS", "LISTS", "LIST ", "ITEM*", "x", "=", "LIST = ( ITEM* )"]
        for call in (grammar.alternatives, grammar.begins, grammar.count_of):
            self.all_refused("name", call, wrong)
        self.all_refused("name", grammar.least_tree, [thing for thing in wrong if thing is not None])
        self.assertEqual(grammar.least_tree(None), grammar.least_tree("LIST"))


class FormTests(unittest.TestCase):

    def refused(self, text, row, word):
        with self.assertRaises(BadRow) as caught:
            Grammar(text)
        self.assertIs(type(caught.exception), BadRow)
        self.assertEqual((caught.exception.row, caught.exception.word), (row, word), text)
        self.assertEqual(caught.exception.what, "row")

    def test_of_anything(self):
        for at, thing in enumerate(NO_TEXTS + NO_NUMBERS):
            if not isinstance(thing, str):
                with self.subTest(at=at):
                    self.refused(thing, 0, 0)

    def test_blanks_and_empty_rows(self):
        for text, row in (("", 1), (" ", 1), ("\n", 1), ("A = a\n", 2), ("\nA = a", 1), ("A = a\n\nB = b", 2),
                          ("A = a ", 1), (" A = a", 1), ("A  = a", 1), ("A =  a", 1), ("A = a\nB = b\n\n", 3),
                          ("A = a\nB = b ", 2), ("A = a\n B = b", 2), ("A = a\nB = b  c", 2), ("A = a |  b", 1)):
            self.refused(text, row, 0)

    def test_blanks_are_told_ahead_of_words(self):
        for text in ("a  = a", "A a ", " | = =", "A = a | ", "A =  "):
            self.refused(text, 1, 0)

    def test_names(self):
        for name in ("A", "Z", "ABCDEFGH", "XXXXXXXX"):
            self.assertEqual(Grammar(f"{name} = a").start(), name)
        for name in ("ABCDEFGHI", "a", "Ab", "A1", "A?", "A*", "=", "|", "1", "A-", "x" * 200):
            self.refused(f"{name} = a", 1, 1)

    def test_the_sign_behind_the_name(self):
        for sign in ("a", "A", "|", "==", "?", "*", "=?", ":=", "=a"):
            self.refused(f"A {sign} a", 1, 2)

    def test_tokens(self):
        for token in ("a", "abcdefgh", "(", "1", "12345678", "~", "!\"#$&'()", "+,-./:;<", ">@[\\]^_`", "{}~"):
            for text in (f"A = {token}", f"A = {token} b {token}? c {token}* d"):
                self.assertEqual(Grammar(text).begins("A"), [token])
        for token in ("abcdefghi", "aB", "Ba", "a=", "=a", "a|b", "|a", "a?b", "?a", "a*b", "*a", "?", "*", "??", "**",
                      "a??", "a**", "a?*", "a*?", "A??", "A?*", "=", "a|", "||", "ABCDEFGHI", "ABCDEFGHI?",
                      "abcdefghi*"):
            self.refused(f"A = {token}", 1, 3)
            self.refused(f"A = b {token} c", 1, 4)
            self.refused(f"A = b {token} c\n|", 1, 4)

    def test_marked_words_of_nine_signs(self):
        grammar = Grammar("A = a abcdefgh? . ABCDEFGH* .\nABCDEFGH = b")
        self.assertEqual(grammar.alternatives("A"), [["a", "abcdefgh?", ".", "ABCDEFGH*", "."]])

    def test_words_that_lack(self):
        words = "A = a b | c".split(" ")
        for many, word in ((1, 2), (2, 3), (5, 6)):
            self.refused(" ".join(words[:many]), 1, word)
            self.refused("B = b\n" + " ".join(words[:many]) + "\nA = a", 2, word)
        for many in (3, 4, 6):
            Grammar(" ".join(words[:many]))

    def test_signs_between_alternatives(self):
        self.refused("A = | a", 1, 3)
        self.refused("A = |", 1, 3)
        self.refused("A = a | | b", 1, 5)
        self.refused("A = a |", 1, 5)
        self.refused("A = a = b", 1, 4)

    def test_as_many_alternatives_as_may_be(self):
        eight = "A = " + " | ".join("abcdefgh")
        self.assertEqual(Grammar(eight).begins("A"), list("abcdefgh"))
        self.refused(eight + " | i", 1, 18)
        self.refused(eight + " |", 1, 18)
        self.refused("A = " + " | ".join(f"{letter} x y" for letter in "abcdefghi"), 1, 34)

    def test_as_many_items_as_may_be(self):
        ten = "A = " + " ".join("abcdefghij")
        self.assertEqual(Grammar(ten).alternatives("A"), [list("abcdefghij")])
        self.refused(ten + " k", 1, 13)
        self.refused(ten + " |", 1, 14)
        self.refused("A = z | " + " ".join("abcdefghijk"), 1, 15)
        self.assertEqual(len(Grammar(ten + " | z").alternatives("A")), 2)
        self.refused(ten + " K", 1, 13)

    def test_as_many_rows_as_may_be(self):
        self.assertEqual(len(Grammar(sample_of(30))), 30)
        self.refused(sample_of(31), 31, 0)
        self.refused(sample_of(40), 31, 0)
        self.refused(sample_of(30) + "\n", 31, 0)
        self.refused(sample_of(29) + "\nA = |\nB = b", 30, 3)
        self.refused(sample_of(31) + "\n|", 31, 0)

    def test_every_row_of_few_words(self):
        words = ["A", "=", "|", "a", "A?", "b*", "aA", ""]
        rows = [[]]
        for _ in range(5):
            rows = [row + [word] for row in rows for word in words]
            for row in rows if len(rows) < 5000 else rows[::7]:
                text = " ".join(row)
                right = right_by_form(text)
                if right is not None:
                    self.refused(text, 1, right)
                    self.refused("Z = z\n" + text + "\n|", 2, right)

    def test_drawn_rows(self):
        chance = random.Random("rows")
        for _ in range(1500):
            many = chance.choice((3, 8, 9))
            counts = [chance.choice((1, 2, 9, 10, 10, 11)) for _ in range(many)]
            alternatives = [" ".join(chance.choices("abcd", k=count)) for count in counts]
            words = ("A = " + " | ".join(alternatives)).split(" ")
            if chance.random() < 0.5:
                words[chance.randrange(len(words))] = chance.choice(["|", "=", "", "B", "a?", "a?a"])
            right = right_by_form(" ".join(words))
            if right is not None:
                self.refused(" ".join(words), 1, right)

    def test_the_form_of_a_later_row_is_told_ahead_of_all_else(self):
        self.refused("A = B\nA = b | b\nC = |", 3, 3)
        self.refused("A = a B?\nB = b ", 2, 0)
        self.refused("A = NONE\nA = a\n", 3, 0)
        self.refused("A = a A\n" + sample_of(30), 31, 0)


class RestTests(unittest.TestCase):

    refused = FormTests.refused

    def test_what_an_alternative_begins_with(self):
        for text, row, word in (
                ("A = B\nB = b", 1, 3), ("A = a? b", 1, 3), ("A = a* b", 1, 3), ("A = B? b\nB = c", 1, 3),
                ("A = B* b\nB = c", 1, 3), ("A = a | B\nB = b", 1, 5), ("A = a b | b? c", 1, 6),
                ("A = a\nB = b | c d | e | A f", 2, 10)):
            self.refused(text, row, word)

    def test_two_that_begin_alike(self):
        for text, row, word in (
                ("A = a | a", 1, 5), ("A = a b | a c", 1, 6), ("A = a | b | a", 1, 7), ("A = a | b c d | b | a", 1, 9),
                ("A = x\nB = a | a b", 2, 5)):
            self.refused(text, row, word)
        Grammar("A = a b | b a\nB = a | b")
        Grammar("A = a a a")

    def test_names_that_no_row_tells(self):
        for text, row, word in (
                ("A = a B", 1, 4), ("A = a B? b", 1, 4), ("A = a B* b", 1, 4), ("A = a\nB = b A C", 2, 5),
                ("A = a | b AA", 1, 6), ("A = a X Y", 1, 4)):
            self.refused(text, row, word)
        Grammar("A = a C\nB = b A\nC = c B? .")

    def test_names_told_twice(self):
        for text, row, word in (("A = a\nA = b", 2, 1), ("A = a\nB = b\nA = a", 3, 1),
                                ("A = a\nB = b\nB = c\nA = d", 3, 1)):
            self.refused(text, row, word)

    def test_what_stands_behind_what_is_marked(self):
        for mark in "?*":
            for rest, right in (("x{}", False), ("x{} y", True), ("x{} x", False), ("x{} y{}", False), ("x{} B", False),
                                ("B{}", False), ("B{} y", True), ("B{} b", False), ("B{} c", False), ("B{} A", False),
                                ("B{} B", False), ("B{} y{} z", False), ("x{} B{} z", False), ("B{} d", True),
                                ("x{} y x{} y", True), ("x{} y x{}", False), ("x{} a", True), ("A{} a", False)):
                text = "A = a " + rest.replace("{}", mark) + "\nB = b | c d"
                if right:
                    Grammar(text)
                else:
                    self.refused(text, 1, 6 if rest == "x{} y x{}" else 4)
                text = "A = q | a " + rest.replace("{}", mark) + "\nB = b | c d"
                if not right and "a" not in rest:
                    self.refused(text, 1, 8 if rest == "x{} y x{}" else 6)

    def test_what_stands_behind_in_another_alternative_does_not_count(self):
        self.refused("A = a x? | y", 1, 4)
        Grammar("A = a x? y | x")

    def test_the_first_is_told(self):
        for text, row, word in (
                ("A = a B c? d? e\nC = C", 1, 4), ("A = a c? d? e B\nC = C", 1, 4), ("A = a | a B", 1, 5),
                ("A = B | a | a", 1, 3), ("A = a b c d? | B", 1, 6), ("A = a\nA = B", 2, 1), ("A = a B\nA = b", 1, 4),
                ("A = a\nB = b\nC = X\nA = a", 3, 3), ("A = a b? B\nC = c", 1, 4), ("A = a B? c\nD = B | c", 1, 4),
                ("A = a B? b\nB = b | b", 1, 4), ("A = a B? c\nB = b | b", 2, 5), ("A = a B? c\nB = b\nB = c", 1, 4),
                ("A = a B? c\nB = c? d", 2, 3)):
            self.refused(text, row, word)

    def test_ahead_of_names_that_do_not_end(self):
        self.refused("A = a A\nB = B", 2, 3)
        self.refused("A = a A\nA = b", 2, 1)

    def test_drawn_grammars_are_refused_where_the_first_thing_is_wrong(self):
        chance = random.Random("rest")
        seen = set()
        for _ in range(6000):
            rows = []
            for name in chance.choice(("A", "AB", "AB", "ABC", "ABA")):
                choices = []
                for _ in range(chance.randint(1, 3)):
                    items = [chance.choice("aaaabbbcccdB")]
                    items += [chance.choice("aabbccddABC") + chance.choice(("", "", "?", "*"))
                              for _ in range(chance.randint(0, 4))]
                    choices.append(items)
                rows.append((name, choices))
            text = "\n".join(f"{name} = " + " | ".join(" ".join(items) for items in choices) for name, choices in rows)
            wrong = self.first_wrong(rows)
            seen.add(wrong is None)
            if wrong is not None:
                self.refused(text, *wrong)
            else:
                try:
                    self.assertEqual(Grammar(text).names(), [name for name, _ in rows])
                except NoEnd as error:
                    self.assertIn(error.name, [name for name, _ in rows])
        self.assertEqual(seen, {True, False})

    def first_wrong(self, rows):
        """Where the first NAME or ITEM stands that is wrong, by all that is said of rows, or None."""
        wrong = []
        for number, (name, choices) in enumerate(rows, start=1):
            if name in [other for other, _ in rows[:number - 1]]:
                wrong.append((number, 1))
            words = f"{name} = ".split(" ")[:2] + [word for items in choices for word in ["|"] + items][1:]
            for at, word in enumerate(words):
                plain = word.rstrip("?*")
                if at < 2 or word == "|":
                    continue
                firsts = [other[0] for row_name, row in rows if row_name == plain for other in row]
                behind = (words + ["|"])[at + 1]
                if plain.isupper() and not firsts:
                    wrong.append((number, at + 1))
                if words[at - 1] in "=|" and (word != plain or plain.isupper()):
                    wrong.append((number, at + 1))
                if words[at - 1] in "=|" and word in [words[k] for k in range(at) if words[k - 1] in "=|"]:
                    wrong.append((number, at + 1))
                if word != plain and (not re.fullmatch("[a-z]", behind) or behind in firsts + [plain]):
                    wrong.append((number, at + 1))
        return min(wrong, default=None)


class EndTests(unittest.TestCase):

    def no_end(self, text, name):
        with self.assertRaises(NoEnd) as caught:
            Grammar(text)
        self.assertEqual(caught.exception.name, name)

    def test_names_that_do_not_end(self):
        self.no_end("A = a A", "A")
        self.no_end("A = a B\nB = b A", "A")
        self.no_end("A = a\nB = b C\nC = c B", "B")
        self.no_end("A = a C\nB = b\nC = c A | d C", "A")
        self.no_end("A = a B | b\nB = b B", "B")
        self.no_end("S = a\nC = c C | d C B\nB = b", "C")

    def test_names_that_end(self):
        for text in ("A = a A | b", "A = a A? b", "A = a B* c\nB = b A", "A = a B\nB = b C\nC = c D\nD = d A | e"):
            self.assertIsInstance(Grammar(text), Grammar)

    def test_a_ring_with_one_way_out(self):
        names = [f"N{chr(65 + at)}" for at in range(26)]
        rows = [f"{name} = a {names[(at + 1) % 26]}" for at, name in enumerate(names)]
        self.no_end("\n".join(rows), "NA")
        rows[-1] += " | b"
        grammar = Grammar("\n".join(rows))
        self.assertEqual([grammar.count_of(name) for name in names], list(range(26, 0, -1)))

    def test_the_least_text_has_at_most_100(self):
        ten = " ".join(["t"] * 10)
        hundred = "A = a" + " B" * 9 + "\nB = " + ten + " C\nC = c"
        with self.assertRaises(BadRow):
            Grammar(hundred)
        hundred = "A = a" + " B" * 9 + "\nB = t t t t t t t t t C\nC = c c"
        self.assertEqual(Grammar(hundred).count_of("A"), 100)
        self.no_end("A = a" + " B" * 9 + "\nB = t t t t t t t t t C\nC = c c c", "A")
        self.no_end("B = t t t t t t t t t C\nC = c c c\nA = a" + " B" * 9, "A")
        self.no_end("Z = z A\nB = t t t t t t t t t C\nC = c c\nA = a" + " B" * 9, "Z")
        self.assertEqual(Grammar("Z = z A? .\n" + hundred).count_of("Z"), 2)

    def test_very_great_ones(self):
        names = [chr(65 + at) for at in range(26)]
        rows = [f"{name} = a" + f" {names[at + 1]}" * 9 for at, name in enumerate(names[:-1])] + ["Z = z"]
        self.no_end("\n".join(rows), "A")
        rows = [f"{name} = a" + f" {names[at + 1]}" * 9 + " | b" for at, name in enumerate(names[:-1])] + ["Z = z"]
        self.assertEqual(Grammar("\n".join(rows)).count_of("A"), 1)


class CountTests(RefusalTests):

    def test_counts_and_least_trees_by_all_trees(self):
        for text in ALL + ("A = b A A | c A | d e f\nB = x A y | z z z z z B? w | q A",):
            grammar = Grammar(text)
            for at, name in enumerate(choices_of(text)):
                trees = trees_of(text, name, 7)
                least = min(count for _, count in trees)
                self.assertEqual(grammar.count_of(name), least)
                first = min(tree[1] for tree, count in trees if count == least)
                self.assertEqual(grammar.counts()[at], (name, least, first))
                tree = grammar.least_tree(name)
                self.assertIn((tree, least), trees)
                self.assertEqual(tree[1], first)
                self.assertIs(check_counts(grammar, grammar.counts()), True)
            self.assertEqual(len(grammar.counts()), len(grammar))

    def test_the_first_alternative_of_that_count(self):
        grammar = Grammar("A = a b c | d B | e f | g h\nB = p | q")
        self.assertEqual(grammar.counts(), (("A", 2, 1), ("B", 1, 0)))
        self.assertEqual(grammar.least_tree(), ("A", 1, ("d", ("B", 0, ("p",)))))

    def test_marked_items_stand_for_none(self):
        grammar = Grammar("A = a B* b c? d A? e\nB = x")
        self.assertEqual(grammar.counts(), (("A", 4, 0), ("B", 1, 0)))
        self.assertEqual(grammar.least_tree("A"), ("A", 0, ("a", (), "b", (), "d", (), "e")))

    def test_drawn_grammars(self):
        chance = random.Random("counts")
        many = 0
        while many < 150:
            names = "ABCDE"[:chance.randint(1, 5)]
            rows = []
            for name in names:
                firsts = chance.sample("abcdef", chance.randint(1, 3))
                rows.append(f"{name} = " + " | ".join(
                    " ".join([first] + [chance.choice(names + "xyz") for _ in range(chance.randint(0, 3))])
                    for first in firsts))
            text = "\n".join(rows)
            try:
                grammar = Grammar(text)
            except NoEnd:
                continue
            many += 1
            paper = grammar.counts()
            self.assertIs(check_counts(grammar, paper), True)
            for name, count, place in paper:
                tree = grammar.least_tree(name)
                self.assertEqual((tree[0], tree[1], len(tokens_in(tree))), (name, place, count))
                if count <= 6:
                    right = trees_of(text, name, count)
                    self.assertEqual({many for _, many in right}, {count})
                    self.assertEqual(min(one[1] for one, _ in right), place)
            trees_of.cache_clear()

    def test_check_counts_with_one_thing_otherwise(self):
        for text in ALL + ("A = a B | b B\nB = x | y\nC = z C C | u A B",):
            grammar = Grammar(text)
            paper = grammar.counts()
            self.assertIs(check_counts(grammar, paper), True)
            wrong = [list(paper), paper + paper[-1:], paper[:-1], paper + ((),), (), tuple(map(list, paper)),
                     str(paper)]
            if len(paper) > 1:
                wrong += [paper[::-1], paper[1:] + paper[:1]]
            for at, (name, count, place) in enumerate(paper):
                rows = [(name, other, place) for other in (*range(-1, count), *range(count + 1, 103), str(count), None)]
                rows += [(name, count, other) for other in range(-2, 10) if other != place]
                rows += [(other, count, place) for other in ("", "X", name + " ", name.lower(), None, 0, (name,))]
                rows += [(name, count), (name, count, place, place), [name, count, place], (count, name, place), name,
                         None, (), (name, deep_tuple(), place), (deep_tuple(), count, place),
                         (name, count, deep_list()), (name, 10 ** 40, place), (name, count, -10 ** 40), deep_tuple(),
                         shared_tuple(), endless_list()]
                if count == 1:
                    rows.append((name, True, place))
                if place in (0, 1):
                    rows.append((name, count, bool(place)))
                wrong += [paper[:at] + (row,) + paper[at + 1:] for row in rows]
            for at, other in enumerate(wrong):
                with self.subTest(text=text, at=at):
                    self.assertIs(check_counts(grammar, other), False)

    def test_check_counts_of_all_otherwise(self):
        grammar = Grammar("A = a B | b\nB = b A | c A A")
        right = grammar.counts()
        self.assertEqual(right, (("A", 1, 1), ("B", 2, 0)))
        for one in range(1, 9):
            for two in range(1, 9):
                for k in range(2):
                    for m in range(2):
                        paper = (("A", one, k), ("B", two, m))
                        self.assertIs(check_counts(grammar, paper), paper == right)

    def test_counts_beyond_100(self):
        grammar = Grammar("A = a" + " B" * 9 + "\nB = t t t t t t t t t C\nC = c c")
        self.assertEqual(grammar.counts(), (("A", 100, 0), ("B", 11, 0), ("C", 2, 0)))
        self.assertIs(check_counts(grammar, grammar.counts()), True)
        self.assertIs(check_counts(grammar, (("A", 109, 0), ("B", 12, 0), ("C", 3, 0))), False)

    def test_check_counts_refused(self):
        grammar = Grammar(LISTS)
        self.all_refused("grammar", lambda thing: check_counts(thing, grammar.counts()), NO_TEXTS + [LISTS, ""])
        for at, thing in enumerate(things() + [LISTS, "", 1, 9]):
            with self.subTest(at=at):
                self.assertIs(check_counts(grammar, thing), False)
                self.assertIs(check_counts(grammar, (thing, thing)), False)
                self.assertIs(check_counts(grammar, grammar.counts()[:1] + (thing,)), False)
                for row in ((thing, 2, 0), ("ITEM", thing, 0), ("ITEM", 2, thing)):
                    self.assertIs(check_counts(grammar, grammar.counts()[:1] + (row,)), False)
        self.assertTrue(issubclass(BadRow, BadValue))


if __name__ == "__main__":
    unittest.main()

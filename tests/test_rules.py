"""RULES and TELLERS [0], [3], [60], [68]."""

import inspect
import random
import unittest
from itertools import product

from leastfail.cases import Case, cut, full
from leastfail.errors import BadToken
from leastfail.grammars import Grammar
from leastfail.halving import halved
from leastfail.rules import holds, teller, text_teller
from leastfail.texttrials import TextTrials
from leastfail.trees import read_tree
from leastfail.trials import Trials
from tests.anything import NO_CONFIGURATIONS, NO_TEXTS
from tests.refusals import RefusalTests
from tests.tables import configurations

CASE = Case(["let x\n", "let y x", "", "  x\nx ", "z;z", "\n"])
NO_CASES = [thing for thing in NO_TEXTS + ["x", ["x"]] if type(thing) is not Case]
# TELLERS, "(" ahead and ")" behind, as a GRAMMAR's texts.
LANGUAGE = Grammar("T = ( R END\nEND = ) | ; R )\nR = has W | ahead W W | many W N | both R R | not R\nN = 0\n"
                   "W = x | has | ahead | many | both | not | 0 | ;;")
WORDS = ["has", "ahead", "many", "both", "not", "x", "0", ";", ";;"]
OTHERS = {"lacks": "has", "either": "both", "1": "0", "2": "0", "3": "0", "10": "0", "99": "0"}


def words_of(piece):
    return piece.replace("\n", " ").split()


def drawn_rule(chance, depth, words):
    """A RULE by chance, as nested tuples."""
    kind = chance.choice(["has", "lacks", "ahead", "many"] + ["both", "either", "not"] * 2 * (depth > 0))
    if kind in ("has", "lacks"):
        return kind, chance.choice(words)
    if kind == "ahead":
        return kind, chance.choice(words), chance.choice(words)
    if kind == "many":
        return kind, chance.choice(words), str(chance.choice([0, 1, 2, 3, 10, 99]))
    return (kind, *[drawn_rule(chance, depth - 1, words) for _ in range(1 if kind == "not" else 2)])


def text_of(rule):
    return " ".join(part if isinstance(part, str) else text_of(part) for part in rule)


def is_held(rule, pieces):
    """Whether a RULE of nested tuples holds of these PIECES."""
    kind, *rest = rule
    if kind == "not":
        return not is_held(rest[0], pieces)
    if kind == "both":
        return is_held(rest[0], pieces) and is_held(rest[1], pieces)
    if kind == "either":
        return is_held(rest[0], pieces) or is_held(rest[1], pieces)
    having = [rest[0] in words_of(piece) for piece in pieces]
    if kind == "has":
        return any(having)
    if kind == "lacks":
        return not any(having)
    if kind == "many":
        return sum(having) >= int(rest[1])
    return any(having[one] and rest[1] in words_of(pieces[two])
               for two in range(len(pieces)) for one in range(two))


def drawn_pieces(chance, words):
    return ["".join(chance.choice([chance.choice(words), " ", "\n", " "]) for _ in range(chance.randint(0, 6)))
            for _ in range(chance.randint(0, 6))]


class InterfaceTests(unittest.TestCase):

    def test_arguments_and_defaults(self):
        for call, signature in ((holds, "(case, rule, parts=None)"), (teller, "(case, text)"),
                                (text_teller, "(text)")):
            self.assertEqual(str(inspect.signature(call)), signature)

    def test_by_name(self):
        self.assertIs(holds(parts=(0,), rule="has x", case=CASE), True)
        self.assertIs(holds(parts=None, rule="has x", case=CASE), True)
        self.assertEqual(teller(text="has x", case=CASE)((0,)), "fail")
        self.assertEqual(text_teller(text="has x")("x"), "fail")


class HoldsTests(RefusalTests):

    def right(self, rule, *parts):
        """The RULE holds of just these CONFIGURATIONS of CASE."""
        found = [one for one in configurations(len(CASE)) if holds(CASE, rule, one)]
        self.assertEqual(found, [one for one in configurations(len(CASE)) if one in parts])

    def where(self, rule, is_right):
        self.right(rule, *[one for one in configurations(len(CASE)) if is_right(set(one))])

    def test_each_kind(self):
        self.where("has x", lambda one: one & {0, 1, 3})
        self.where("lacks x", lambda one: not one & {0, 1, 3})
        self.where("has let", lambda one: one & {0, 1})
        self.where("has z", lambda one: False)
        self.where("has z;z", lambda one: 4 in one)
        self.where("ahead let y", lambda one: {0, 1} <= one)
        self.where("ahead y let", lambda one: False)
        self.where("ahead x x", lambda one: len(one & {0, 1, 3}) >= 2)
        self.where("ahead y x", lambda one: {1, 3} <= one)
        self.where("many x 0", lambda one: True)
        self.where("many x 1", lambda one: one & {0, 1, 3})
        self.where("many x 2", lambda one: len(one & {0, 1, 3}) >= 2)
        self.where("many x 3", lambda one: {0, 1, 3} <= one)
        self.where("many x 4", lambda one: False)
        self.where("many x 99", lambda one: False)
        self.where("many nothing 0", lambda one: True)
        self.where("both has x has y", lambda one: 1 in one)
        self.where("either has y has z;z", lambda one: one & {1, 4})
        self.where("not has x", lambda one: not one & {0, 1, 3})
        self.where("not both has x not has y", lambda one: not one & {0, 1, 3} or 1 in one)

    def test_a_word_that_a_piece_has_twice_counts_once(self):
        self.assertIs(holds(Case(["x x x"]), "many x 2"), False)
        self.assertIs(holds(Case(["x x x", "x"]), "many x 2"), True)

    def test_one_piece_is_not_ahead_of_itself(self):
        self.assertIs(holds(Case(["x y"]), "ahead x y"), False)
        self.assertIs(holds(Case(["x y", "x y"]), "ahead x y"), True)
        self.assertIs(holds(Case(["y x", "y"]), "ahead x y"), True)
        self.assertIs(holds(Case(["y", "x"]), "ahead x y"), False)
        self.assertIs(holds(Case(["y", "x", "y", "x"]), "ahead x y"), True)

    def test_words_stand_between_blanks_and_line_ends(self):
        case = Case(["ab", "a b", "\na\n", "  a  ", "a,", "A"])
        self.assertEqual([holds(case, "has a", (number,)) for number in range(6)],
                         [False, True, True, True, False, False])

    def test_of_no_pieces(self):
        for case, parts in ((Case([]), None), (Case([]), ()), (CASE, ()), (Case(["", " \n"]), None)):
            self.assertEqual([holds(case, rule, parts) for rule in ("has x", "lacks x", "ahead x x", "many x 0",
                                                                    "many x 1", "not has x")],
                             [False, True, False, True, False, True])

    def test_of_full_if_none_is_told(self):
        self.assertIs(holds(CASE, "many x 3"), True)
        self.assertIs(holds(CASE, "many x 3", None), True)
        self.assertIs(holds(CASE, "many x 4"), False)
        self.assertIs(holds(CASE, "many x 1", ()), False)

    def test_words_that_rules_begin_with_are_words(self):
        case = Case(["has", "not both", "either", "many 7"])
        for word in ("has", "not", "both", "either", "many", "7"):
            self.assertIs(holds(case, f"has {word}"), True)
            self.assertIs(holds(case, f"lacks {word}"), False)
        self.assertIs(holds(case, "ahead has many"), True)
        self.assertIs(holds(case, "ahead many has"), False)
        self.assertIs(holds(case, "many many 1"), True)
        self.assertIs(holds(case, "has lacks"), False)

    def test_words_of_one_to_twenty_signs(self):
        long = "~" * 20
        case = Case([long, "!", "a;", ";;", "=|?*"])
        for word in (long, "!", "a;", ";;", "=|?*"):
            self.assertIs(holds(case, f"has {word}"), True)
            self.assertIs(holds(case, f"ahead {word} {word}"), False)
        self.assertIs(holds(case, f"has {long[1:]}"), False)

    def test_the_word_between_rules_is_no_word(self):
        self.bad(2, holds, Case([";"]), "has ;")

    def bad(self, place, call, *args):
        with self.assertRaises(BadToken) as caught:
            call(*args)
        self.assertEqual(caught.exception.place, place)

    def test_drawn_rules_within_one_another(self):
        chance = random.Random("rules")
        words = ["a", "b", "ab", "has", "not", "0"]
        for _ in range(600):
            pieces = drawn_pieces(chance, words)
            rule = drawn_rule(chance, chance.randint(0, 3), words)
            while len(text_of(rule).split()) > 60:
                rule = drawn_rule(chance, 3, words)
            for parts in configurations(len(pieces))[::5]:
                self.assertIs(holds(Case(pieces), text_of(rule), parts), is_held(rule, [pieces[at] for at in parts]))
            self.assertIs(holds(Case(pieces), text_of(rule)), is_held(rule, pieces))

    def test_five_deep_and_more(self):
        for depth in range(59):
            rule = "not " * depth + "has x"
            self.assertIs(holds(CASE, rule), depth % 2 == 0)
            self.assertIs(holds(CASE, rule, ()), depth % 2 == 1)
        for depth in range(20):
            rule = "both " * depth + "has x" + " lacks q" * depth
            self.assertIs(holds(CASE, rule), True)
            rule = "either " + "lacks x either " * min(depth, 18) + "lacks y has q"
            self.assertIs(holds(CASE, rule), False)
            self.assertIs(holds(CASE, rule, (0,)), True)

    def test_60_and_61_words(self):
        self.assertIs(holds(CASE, "not " * 58 + "has x"), True)
        self.bad(61, holds, CASE, "not " * 59 + "has x")
        self.bad(61, holds, CASE, "not " * 60 + "has x")
        self.bad(61, holds, CASE, ("not " * 60)[:-1])
        self.bad(60, holds, CASE, ("not " * 59)[:-1])
        self.bad(61, holds, CASE, ("not " * 5000)[:-1])
        self.bad(61, holds, CASE, ("both " * 5000)[:-1])
        self.bad(61, holds, CASE, "not " * 58 + "has x y")
        self.bad(60, holds, CASE, "not " * 58 + "has ; " + "x " * 50 + "x")
        full_rule = "not " + "both " * 19 + "has x" + " has x" * 19
        self.assertEqual(len(full_rule.split()), 60)
        self.assertIs(holds(CASE, full_rule), False)
        self.bad(61, holds, CASE, "not " + full_rule)

    def test_refused(self):
        self.all_refused("case", lambda thing: holds(thing, "has x", ()), NO_CASES)
        self.all_refused("case", lambda thing: holds(thing, None, None), NO_CASES)
        self.all_refused("case", lambda thing: holds(thing, "", thing), NO_CASES)
        wrong = [thing for thing in NO_CONFIGURATIONS + [(6,), (0, 6), (119,)] if thing is not None]
        self.all_refused("parts", lambda thing: holds(CASE, "has x", thing), wrong)
        for thing in wrong:
            self.bad(1, holds, CASE, "x", thing)
            self.bad(0, holds, CASE, thing if not isinstance(thing, str) else "", thing)
        for at, thing in enumerate(NO_TEXTS):
            with self.subTest(at=at):
                self.bad(0, holds, CASE, thing)

    def test_of_one_rule_alone(self):
        self.bad(3, holds, CASE, "has x ; has y")
        self.bad(3, holds, CASE, "has x ;")
        self.bad(1, holds, CASE, "; has x")


class BadTokenTests(unittest.TestCase):

    def bad(self, place, text):
        for call, args in ((teller, (CASE, text)), (text_teller, (text,))):
            with self.assertRaises(BadToken) as caught:
                call(*args)
            self.assertEqual((caught.exception.place, caught.exception.what), (place, "token"))

    def test_every_row_of_few_words(self):
        """The place is that which a GRAMMAR of TELLERS tells, but for the "(" ahead."""
        rows = [row for many in range(1, 4) for row in product(WORDS, repeat=many)]
        rows += [("has", "x", *row) for row in product(WORDS, repeat=3)]
        rows += [("not", "many", *row) for row in product(WORDS, repeat=3)]
        rows += [("both", "has", ";;", *row) for row in product(WORDS, repeat=2)]
        rows += [("has", "x", ";", "has", *row) for row in product(WORDS, repeat=3)]
        for row in rows:
            self.like_the_language(row)

    def test_drawn_rows(self):
        chance = random.Random("rows")
        for _ in range(3000):
            rules = [drawn_rule(chance, 2, ["x", "has", "0", ";;"]) for _ in range(chance.randint(1, 3))]
            words = " ; ".join(text_of(rule) for rule in rules).split(" ")
            words = [OTHERS.get(word, word) for word in words]
            for _ in range(chance.randint(0, 2)):
                at = chance.randrange(len(words))
                words[at:at + chance.randint(0, 1)] = chance.choice([[], [chance.choice(WORDS)]])
                if not words:
                    words = ["x"]
            if len(words) <= 60:
                self.like_the_language(words)

    def like_the_language(self, words):
        text = " ".join(words)
        try:
            read_tree(LANGUAGE, f"( {text} )")
        except BadToken as wrong:
            self.bad(wrong.place - 1, text)
        else:
            teller(CASE, text)
            text_teller(text)

    def test_numbers(self):
        for word in ("0", "1", "9", "10", "42", "99"):
            teller(CASE, f"many x {word}")
        for word in ("00", "01", "07", "100", "999", "-1", "+1", "1.", "x", "1x", "x1", "many", ";", "1\n", "\n1"):
            self.bad(3, f"many x {word}")
            self.bad(4, f"not many x {word} has y")

    def test_words(self):
        for word in ("x", "~" * 20, ";;", "has", "0", "=", "a;b"):
            for text in (f"has {word}", f"lacks {word}", f"ahead {word} x", f"ahead x {word}", f"many {word} 0"):
                teller(CASE, text)
        for word in ("~" * 21, "x" * 300, ";", "a\nb", "\n", "a\n", "\na", "\n" * 20):
            self.bad(2, f"has {word}")
            self.bad(2, f"lacks {word} has")
            self.bad(2, f"ahead {word} x")
            self.bad(3, f"ahead x {word}")
            self.bad(2, f"many {word} 0")
            self.bad(7, f"not has x ; not lacks {word}")

    def test_lacking_words(self):
        for place, text in ((2, "has"), (2, "not"), (2, "ahead"), (3, "ahead x"), (3, "many x"), (3, "not has"),
                            (4, "both has x"), (5, "both has x has"), (4, "has x ;"), (5, "has x ; has"),
                            (6, "has x ; both has"), (5, "has x ; not")):
            self.bad(place, text)

    def test_words_too_many(self):
        for place, text in ((3, "has x y"), (3, "has x has y"), (4, "ahead x y z"), (4, "many x 3 4"),
                            (6, "both has x has y has z"), (6, "has x ; has y ; has z"), (6, "has x ; has y z"),
                            (6, "has x ; has y ;"), (7, "has x ; many y 3 ;")):
            self.bad(place, text)

    def test_the_word_between(self):
        for place, text in ((1, ";"), (1, "; has x"), (4, "has x ; ; has y"), (4, "has x ;"), (3, "has x ;; has y"),
                            (3, "has x ;has y"), (2, "not ; has x"), (2, "has ; has x"), (4, "both has x ; has y")):
            self.bad(place, text)
        teller(CASE, "has x; ; has y")
        teller(CASE, "has ;; ; has ;;")

    def test_the_first_word_that_cannot_stand(self):
        for place, text in ((1, "x has"), (1, "Has x"), (1, "HAS x"), (1, "hass x"), (1, "0"), (2, "not x has ;"),
                            (3, "not not x"), (4, "both has x x has ;"), (3, "many x x ; ;")):
            self.bad(place, text)

    def test_60_and_61_words_of_each(self):
        rule = "not " * 58 + "has x"
        teller(CASE, rule)
        teller(CASE, f"{rule} ; {rule}")
        teller(CASE, f"has x ; {rule}")
        self.bad(61, f"not {rule}")
        self.bad(61, f"not {rule} ; has x")
        self.bad(122, f"{rule} ; not {rule}")
        self.bad(64, f"has x ; not {rule}")
        self.bad(122, f"{rule} ; {rule} ; {rule}")
        self.bad(62, f"{rule} ;")
        self.bad(61, f"{rule} x")
        self.bad(121, f"{rule} ; " + "not " * 59 + "x")
        self.bad(122, f"{rule} ; " + "not " * 60 + "x")

    def test_place_0(self):
        for text in ("", " ", "  ", " has x", "has x ", "has  x", "has x  ; has y", "has x ;  has y", "has x ; ",
                     " ; has x", "x  x", " x", "has a\nb ", "has  a\nb", "not " * 100, "\n ", " \n"):
            self.bad(0, text)
        for at, thing in enumerate(NO_TEXTS):
            with self.subTest(at=at):
                self.bad(0, thing)

    def test_a_line_end_is_a_sign_of_its_word(self):
        for place, text in ((1, "\n"), (1, "has\nx"), (1, "\nhas x"), (2, "has x\n"), (2, "has \nx"), (2, "has \n x"),
                            (2, "has x\n; has y"), (3, "has x ;\nhas y"), (3, "has x \n has y"), (3, "many x 1\n"),
                            (3, "has x ;\n has y"), (4, "has x ; \nhas y")):
            self.bad(place, text)


class TellerTests(RefusalTests):

    def test_drawn_tellers(self):
        chance = random.Random("tellers")
        words = ["a", "b", "ab", "has"]
        seen = set()
        for _ in range(400):
            pieces = drawn_pieces(chance, words)
            rules = [drawn_rule(chance, 2, words) for _ in range(chance.randint(1, 2))]
            text = " ; ".join(text_of(rule) for rule in rules)
            test = teller(Case(pieces), text)
            by_text = text_teller(text)
            for parts in configurations(len(pieces))[::3]:
                told = test(parts)
                held = [is_held(rule, [pieces[at] for at in parts]) for rule in rules]
                right = "fail" if held[0] else "unresolved" if held[1:] == [True] else "pass"
                self.assertEqual(told, right)
                seen.add(right)
                joined = "".join(pieces[at] for at in parts)
                held = [is_held(rule, words_of(joined)) for rule in rules]
                right = "fail" if held[0] else "unresolved" if held[1:] == [True] else "pass"
                self.assertEqual(by_text(joined), right)
        self.assertEqual(seen, {"fail", "pass", "unresolved"})

    def test_one_rule_and_two(self):
        case = cut("a b c", by="words")
        test = teller(case, "has a")
        self.assertEqual([test(parts) for parts in ((), (0,), (1,), (0, 1, 2))], ["pass", "fail", "pass", "fail"])
        test = teller(case, "both has a has b ; has a")
        self.assertEqual([test(parts) for parts in ((), (0,), (1,), (0, 1), (0, 2))],
                         ["pass", "unresolved", "pass", "fail", "unresolved"])

    def test_of_trials(self):
        case = cut("let x be let y be x", by="words")
        trials = Trials(teller(case, "ahead let x ; lacks y"))
        self.assertEqual(case.joined(halved(trials, full(7))), "let x ")
        texts = TextTrials(text_teller("ahead let x ; lacks y"))
        self.assertEqual([texts.ask(text) for text in ("let x", "x let", "", "y", "let\n\n x  ")],
                         ["fail", "unresolved", "unresolved", "pass", "fail"])

    def test_each_word_of_a_text_is_a_piece(self):
        self.assertEqual(text_teller("ahead x y")("x y"), "fail")
        self.assertEqual(text_teller("many x 3")("x x  x"), "fail")
        self.assertEqual(text_teller("many x 3")("x x xx"), "pass")
        self.assertEqual(text_teller("lacks x")(""), "fail")

    def test_texts_of_many_words(self):
        text = "x " * 9000 + "y" * 500
        self.assertEqual(text_teller("many x 99")(text), "fail")
        self.assertEqual(text_teller("has y ; has x")(text), "unresolved")

    def test_what_is_no_configuration_of_the_case(self):
        test = teller(CASE, "has x")
        self.all_refused("parts", test, NO_CONFIGURATIONS + [(6,), (0, 6), (119,)])
        self.assertEqual(teller(Case([]), "has x")(()), "pass")
        self.refused("parts", teller(Case([]), "has x"), (0,))

    def test_refused(self):
        self.all_refused("case", lambda thing: teller(thing, "has x"), NO_CASES)
        self.all_refused("case", lambda thing: teller(thing, None), NO_CASES)

    def test_what_is_told_is_told_again(self):
        test = teller(CASE, "has x ; has let")
        once = [test(parts) for parts in configurations(6)]
        self.assertEqual([test(parts) for parts in configurations(6)], once)


if __name__ == "__main__":
    unittest.main()

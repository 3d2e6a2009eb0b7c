"""CASES and CONFIGURATIONS [0], [1], CUT [2], and PARTED, the first sentence of [7]."""

import inspect
import unittest

from leastfail import cases
from leastfail.cases import (MOST_PIECES, Case, cut, full, is_configuration, is_within, one_less, parted,
                             together, without)
from tests.anything import (NO_CONFIGURATIONS, NO_NUMBERS, NO_PIECES, NO_TEXTS, Alike, Hostile, deep_tuple,
                            shared_tuple)
from tests.refusals import RefusalTests

FULL = tuple(range(120))


class InterfaceTests(unittest.TestCase):

    def test_arguments_defaults_and_stars(self):
        told = {
            is_configuration: "(thing, count=120)",
            full: "(count)",
            without: "(parts, others)",
            together: "(parts, others)",
            is_within: "(parts, others)",
            one_less: "(parts)",
            parted: "(parts, many)",
            Case: "(pieces)",
            Case.pieces: "(self)",
            Case.joined: "(self, parts=None)",
            Case.kept: "(self, parts)",
            cut: "(text, *, by='lines')",
        }
        for thing, signature in told.items():
            with self.subTest(name=thing.__name__):
                self.assertEqual(str(inspect.signature(thing)), signature)

    def test_methods_stand_in_the_class_itself(self):
        for name in ("pieces", "joined", "kept", "__eq__", "__len__", "__str__", "__repr__"):
            self.assertIn(name, vars(Case))

    def test_most_pieces(self):
        self.assertEqual(MOST_PIECES, 120)
        self.assertEqual(cases.MOST_PIECES, 120)


class IsConfigurationTests(unittest.TestCase):

    def test_those_that_are(self):
        for thing in ((), (0,), (119,), (0, 119), (3, 4, 90), FULL):
            self.assertIs(is_configuration(thing), True)

    def test_those_that_are_none(self):
        for thing in ((0, 0), (1, 0), (0, 2, 2), (0, 2, 1), (-1,), (-1, 0), (120,), (0, 120), FULL + (120,),
                      (10 ** 3999,), (-10 ** 3999,)):
            with self.subTest(first=thing[0] < 200):
                self.assertIs(is_configuration(thing), False)

    def test_a_wrong_number_anywhere(self):
        for at in (0, 60, 119):
            for wrong in (None, True, "1", (), -1, 120, 59 if at != 59 else 60):
                thing = FULL[:at] + (wrong,) + FULL[at + 1:]
                self.assertIs(is_configuration(thing), False)

    def test_anything(self):
        for at, thing in enumerate(NO_CONFIGURATIONS):
            with self.subTest(at=at):
                self.assertIs(is_configuration(thing), False)
                self.assertIs(is_configuration(thing, 0), False)

    def test_truths(self):
        self.assertIs(is_configuration(True), False)
        self.assertIs(is_configuration((False, True)), False)
        self.assertIs(is_configuration((0, True)), False)
        self.assertIs(is_configuration((False, 1)), False)

    def test_deep_and_shared(self):
        for thing in (deep_tuple(), (0, deep_tuple()), shared_tuple(), (0, shared_tuple())):
            self.assertIs(is_configuration(thing), False)

    def test_of_count_pieces(self):
        self.assertIs(is_configuration((), 0), True)
        self.assertIs(is_configuration((0,), 0), False)
        self.assertIs(is_configuration((0,), 1), True)
        self.assertIs(is_configuration((1,), 1), False)
        self.assertIs(is_configuration((0, 4), 5), True)
        self.assertIs(is_configuration((0, 5), 5), False)
        self.assertIs(is_configuration((118,), 119), True)
        self.assertIs(is_configuration((119,), 119), False)
        self.assertIs(is_configuration((119,), 120), True)
        self.assertIs(is_configuration((120,), 120), False)

    def test_a_count_beyond_the_bound_lets_no_other_numbers_in(self):
        self.assertIs(is_configuration((119,), 130), True)
        self.assertIs(is_configuration((120,), 130), False)

    def test_by_name(self):
        self.assertIs(is_configuration(count=3, thing=(2,)), True)
        self.assertIs(is_configuration(thing=(3,), count=3), False)


class ConfigurationTests(RefusalTests):

    def test_full(self):
        self.assertEqual(full(0), ())
        self.assertEqual(full(1), (0,))
        self.assertEqual(full(count=3), (0, 1, 2))
        self.assertEqual(full(120), FULL)

    def test_full_refused(self):
        self.all_refused("count", full, NO_NUMBERS + [-1, 121, 10 ** 30, -10 ** 30])

    def test_without(self):
        self.assertEqual(without((), ()), ())
        self.assertEqual(without((), FULL), ())
        self.assertEqual(without((1, 3, 5), ()), (1, 3, 5))
        self.assertEqual(without((1, 3, 5), (3,)), (1, 5))
        self.assertEqual(without((1, 3, 5), (0, 1, 2, 5, 7)), (3,))
        self.assertEqual(without((1, 3, 5), (1, 3, 5)), ())
        self.assertEqual(without(FULL, FULL[:119]), (119,))
        self.assertEqual(without(FULL, FULL[::2]), FULL[1::2])
        self.assertEqual(without(others=(1,), parts=(0, 1)), (0,))

    def test_together(self):
        self.assertEqual(together((), ()), ())
        self.assertEqual(together((), (4, 9)), (4, 9))
        self.assertEqual(together((4, 9), ()), (4, 9))
        self.assertEqual(together((4, 9, 100), (0, 5, 9)), (0, 4, 5, 9, 100))
        self.assertEqual(together(FULL[::2], FULL[1::2]), FULL)
        self.assertEqual(together(FULL, FULL), FULL)
        self.assertEqual(together(others=(0,), parts=(1,)), (0, 1))

    def test_is_within(self):
        for parts, others in (((), ()), ((), (1,)), ((1,), (1,)), ((1, 5), (0, 1, 5)), ((), FULL), (FULL, FULL)):
            self.assertIs(is_within(parts, others), True)
        for parts, others in (((1,), ()), ((1,), (0, 2)), ((1, 5), (1, 4)), ((0, 1), (1,)), (FULL, FULL[1:])):
            self.assertIs(is_within(parts, others), False)
        self.assertIs(is_within(others=(0, 1), parts=(1,)), True)

    def test_two_refused(self):
        for call in (without, together, is_within):
            self.all_refused("parts", lambda thing: call(thing, (0,)), NO_CONFIGURATIONS)
            self.all_refused("others", lambda thing: call((0,), thing), NO_CONFIGURATIONS)
            self.all_refused("others", lambda thing: call((), thing), NO_CONFIGURATIONS)
            self.all_refused("parts", lambda thing: call(thing, thing), NO_CONFIGURATIONS)

    def test_one_less(self):
        self.assertEqual(one_less(()), [])
        self.assertEqual(one_less((7,)), [()])
        self.assertEqual(one_less((1, 4)), [(1,), (4,)])
        self.assertEqual(one_less(parts=(1, 4, 6)), [(1, 4), (1, 6), (4, 6)])
        told = one_less(FULL)
        self.assertEqual(len(told), 120)
        self.assertEqual((told[0], told[-1]), (FULL[:-1], FULL[1:]))
        self.assertTrue(all(is_configuration(less) and len(less) == 119 for less in told))

    def test_one_less_refused(self):
        self.all_refused("parts", one_less, NO_CONFIGURATIONS)

    def test_told_lists_are_the_askers_own(self):
        parts = (1, 4, 6)
        for call in (one_less, lambda parts: parted(parts, 2)):
            ahead = call(parts)
            told = call(parts)
            told.clear()
            self.assertEqual(call(parts), ahead)


class PartedTests(RefusalTests):

    def test_parted(self):
        self.assertEqual(parted((5,), 1), [(5,)])
        self.assertEqual(parted((1, 2, 3), 1), [(1, 2, 3)])
        self.assertEqual(parted((1, 2, 3), 2), [(1,), (2, 3)])
        self.assertEqual(parted((1, 2, 3), 3), [(1,), (2,), (3,)])
        self.assertEqual(parted((0, 2, 4, 6, 8), 2), [(0, 2), (4, 6, 8)])
        self.assertEqual(parted((0, 2, 4, 6, 8), 3), [(0,), (2, 4), (6, 8)])
        self.assertEqual(parted((0, 2, 4, 6, 8), 4), [(0,), (2,), (4,), (6, 8)])
        self.assertEqual(parted(many=2, parts=(0, 9)), [(0,), (9,)])

    def test_of_full(self):
        self.assertEqual(parted(FULL, 1), [FULL])
        self.assertEqual(parted(FULL, 120), [(number,) for number in FULL])
        self.assertEqual(parted(FULL, 7)[3], FULL[3 * 120 // 7:4 * 120 // 7])

    def test_every_many(self):
        for count in (1, 2, 3, 10, 11, 120):
            parts = FULL[120 - count:]
            for many in range(1, count + 1):
                rows = parted(parts, many)
                self.assertEqual(rows, [parts[k * count // many:(k + 1) * count // many] for k in range(many)])
                self.assertEqual(sum(rows, ()), parts)
                self.assertTrue(all(rows))

    def test_many_refused(self):
        self.all_refused("many", lambda many: parted((1, 2, 3), many), NO_NUMBERS + [0, -1, 4, 10 ** 30])
        self.refused("many", parted, FULL, 121)

    def test_the_empty_one_is_parted_in_nothing(self):
        for many in (-1, 0, 1, 2):
            self.refused("many", parted, (), many)

    def test_parts_refused_first(self):
        self.all_refused("parts", lambda parts: parted(parts, 1), NO_CONFIGURATIONS)
        self.all_refused("parts", lambda parts: parted(parts, None), NO_CONFIGURATIONS)


class CaseTests(RefusalTests):

    def test_pieces_of_a_list_and_of_a_tuple(self):
        for pieces in ([], ["a"], ["a", "", "a", "b c\n"], ["x"] * 120, ["x" * 200, ""]):
            for case in (Case(pieces), Case(tuple(pieces)), Case(pieces=pieces)):
                self.assertEqual(case.pieces(), pieces)
                self.assertEqual(len(case), len(pieces))
                self.assertEqual(str(case), "".join(pieces))
                self.assertEqual(case.joined(), "".join(pieces))

    def test_pieces_refused(self):
        too_much = [["x"] * 121, ("x",) * 121, [""] * 121, ["x" * 201], ("a", "x" * 201)]
        self.all_refused("pieces", Case, NO_PIECES + too_much)

    def test_what_is_done_to_pieces_later(self):
        pieces = ["a", "b"]
        case = Case(pieces)
        pieces.append("c")
        pieces[0] = "d"
        self.assertEqual(case.pieces(), ["a", "b"])

    def test_what_is_done_to_told_pieces(self):
        case = Case(["a", "b"])
        told = case.pieces()
        told[0] = "d"
        told.append("c")
        self.assertEqual(case.pieces(), ["a", "b"])
        self.assertEqual(case.joined(), "ab")
        case.kept((0,))
        self.assertEqual(told, ["d", "b", "c"])

    def test_joined(self):
        case = Case(["a", "b\n", "", " c"])
        self.assertEqual(case.joined(), "ab\n c")
        self.assertEqual(case.joined(None), "ab\n c")
        self.assertEqual(case.joined(()), "")
        self.assertEqual(case.joined((1, 3)), "b\n c")
        self.assertEqual(case.joined(parts=(0,)), "a")
        self.assertEqual(case.joined((0, 1, 2, 3)), "ab\n c")
        self.assertEqual(Case([]).joined(()), "")
        self.assertEqual(Case(["x"] * 120).joined(FULL), "x" * 120)

    def test_joined_refused(self):
        case = Case(["a", "b", "c"])
        wrong = [thing for thing in NO_CONFIGURATIONS if thing is not None]
        self.all_refused("parts", case.joined, wrong + [(3,), (0, 3), (119,)])
        self.refused("parts", Case([]).joined, (0,))

    def test_kept(self):
        case = Case(["a", "b", "c", "d"])
        kept = case.kept((1, 2, 3))
        self.assertIsInstance(kept, Case)
        self.assertEqual(kept.pieces(), ["b", "c", "d"])
        self.assertEqual(kept.kept(parts=(0, 2)).pieces(), ["b", "d"])
        self.assertEqual(case.kept(()).pieces(), [])
        self.assertEqual(case.kept(full(4)), case)
        self.assertEqual(case.pieces(), ["a", "b", "c", "d"])

    def test_kept_refused(self):
        case = Case(["a", "b", "c"])
        self.all_refused("parts", case.kept, NO_CONFIGURATIONS + [(3,), (0, 3), (119,)])
        self.refused("parts", case.kept((0, 1)).kept, (2,))

    def test_alike(self):
        self.assertTrue(Case(["a", "b"]) == Case(("a", "b")))
        self.assertFalse(Case(["a", "b"]) != Case(("a", "b")))
        self.assertTrue(Case([]) == Case(()))
        for pieces in ([], ["a"], ["ab"], ["b", "a"], ["a", "b", ""], ["a", "c"]):
            self.assertFalse(Case(["a", "b"]) == Case(pieces))
            self.assertTrue(Case(["a", "b"]) != Case(pieces))

    def test_unlike_anything_else(self):
        case = Case(["a"])
        for thing in [None, 0, "a", ["a"], ("a",), {"a": 1}, Hostile(), Alike(), deep_tuple(), Case, object()]:
            self.assertIs(case == thing, False)
            self.assertIs(case != thing, True)

    def test_shown(self):
        self.assertEqual(repr(Case(["a", "b", "c"])), "Case(3 pieces)")
        self.assertEqual(repr(Case([])), "Case(0 pieces)")
        self.assertEqual(repr(Case(["a"] * 120)), "Case(120 pieces)")
        self.assertEqual(str(Case(["a ", "b\n"])), "a b\n")
        self.assertEqual(str(Case([])), "")


class CutTests(RefusalTests):

    def cut_so(self, by, text, pieces):
        with self.subTest(by=by, text=text):
            case = cut(text, by=by)
            self.assertIsInstance(case, Case)
            self.assertEqual(case.pieces(), pieces)
            self.assertEqual(case.joined(), text)

    def test_lines(self):
        self.cut_so("lines", "", [])
        self.cut_so("lines", "a", ["a"])
        self.cut_so("lines", "a\n", ["a\n"])
        self.cut_so("lines", "\n", ["\n"])
        self.cut_so("lines", "\n\n", ["\n", "\n"])
        self.cut_so("lines", "\na b\n\n c", ["\n", "a b\n", "\n", " c"])
        self.cut_so("lines", "a\nb\n", ["a\n", "b\n"])
        self.cut_so("lines", " ", [" "])

    def test_words(self):
        self.cut_so("words", "", [])
        self.cut_so("words", "ab", ["ab"])
        self.cut_so("words", " ", [" "])
        self.cut_so("words", "\n \n", ["\n \n"])
        self.cut_so("words", "a b", ["a ", "b"])
        self.cut_so("words", "ab  cd\ne", ["ab  ", "cd\n", "e"])
        self.cut_so("words", "  ab", ["  ", "ab"])
        self.cut_so("words", "\nab", ["\n", "ab"])
        self.cut_so("words", "ab \n ", ["ab \n "])
        self.cut_so("words", " a \n b ", [" ", "a \n ", "b "])

    def test_all_signs_but_blanks_and_line_ends_are_of_words(self):
        for sign in [chr(code) for code in range(33, 127) if chr(code) != "%"]:
            self.cut_so("words", f"{sign}a{sign} {sign}\n", [f"{sign}a{sign} ", f"{sign}\n"])

    def test_signs(self):
        self.cut_so("signs", "", [])
        self.cut_so("signs", "a", ["a"])
        self.cut_so("signs", " a\nb~", [" ", "a", "\n", "b", "~"])
        self.cut_so("signs", "\n\n", ["\n", "\n"])

    def test_by_lines_if_none_is_told(self):
        self.assertEqual(cut("a b\nc"), Case(["a b\n", "c"]))
        self.assertEqual(cut(text="a b\nc"), Case(["a b\n", "c"]))

    def test_how_many_pieces(self):
        for by, piece in (("lines", "\n"), ("words", "a "), ("signs", "a"), ("signs", "\n")):
            self.assertEqual(cut(piece * 120, by=by).pieces(), [piece] * 120)
            self.refused("text", cut, piece * 121, by=by)
        self.assertEqual(len(cut("\n" * 119 + "a")), 120)
        self.refused("text", cut, "\n" * 120 + "a")
        self.assertEqual(len(cut(" " + "a " * 119, by="words")), 120)
        self.refused("text", cut, " " + "a " * 120, by="words")

    def test_how_long_pieces(self):
        long = "x" * 199
        self.assertEqual(cut(long + "\n").pieces(), [long + "\n"])
        self.assertEqual(cut("a\n" + long + "y").pieces(), ["a\n", long + "y"])
        self.refused("text", cut, long + "y\n")
        self.refused("text", cut, "a\n" + long + "yz")
        self.assertEqual(cut("a " + long + " b", by="words").pieces(), ["a ", long + " ", "b"])
        self.refused("text", cut, "a " + long + "  b", by="words")
        self.assertEqual(cut(" " * 200, by="words").pieces(), [" " * 200])
        self.refused("text", cut, " " * 201, by="words")

    def test_a_long_text(self):
        text = ("x" * 165 + "\n") * 120
        self.assertEqual(len(cut(text)), 120)
        self.refused("text", cut, "a " * 10000, by="words")
        self.refused("text", cut, "a" * 20000, by="signs")

    def test_text_refused(self):
        for by in ("lines", "words", "signs"):
            self.all_refused("text", lambda text: cut(text, by=by), NO_TEXTS)

    def test_by_refused(self):
        wrong = NO_TEXTS + ["", "line", "Lines", "lines ", "words,signs", "l", "pieces"]
        self.all_refused("by", lambda by: cut("a", by=by), wrong)
        self.all_refused("by", lambda by: cut("", by=by), wrong)

    def test_order_of_refusals(self):
        self.refused("text", cut, 1, by="line")
        self.refused("text", cut, None, by=None)
        self.refused("by", cut, "\n" * 121, by="line")
        self.refused("by", cut, "x" * 201, by=None)

    def test_by_is_handed_in_by_its_name(self):
        with self.assertRaises(TypeError):
            cut("a", "lines")


if __name__ == "__main__":
    unittest.main()

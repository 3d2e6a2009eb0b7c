"""A desk [0], [2], [50], [51], [52], [57], [68], [70]."""

import inspect
import random
import re
import unittest

from leastfail.cases import Case, cut
from leastfail.desk import Desk
from leastfail.errors import BadRow, BadToken, BadValue, NoEnd, Nothing, NotSo, Spent
from leastfail.grammars import Grammar
from leastfail.links import links_of
from leastfail.pruning import pruned
from leastfail.rules import teller, text_teller
from leastfail.sessions import Session
from leastfail.texttrials import TextTrials
from leastfail.trees import read_tree, text_of
from tests.anything import NO_TEXTS

LISTS = "LIST = ( ITEM* ) ; ITEM = x bang? . | [ LIST ]"
NUMBER = "(0|[1-9][0-9]{0,6})"


class Plain:
    """A desk in plain words."""

    def __init__(self):
        self.case, self.rule, self.grammar, self.session = Case([]), "has x", None, None

    def say(self, line):
        if not isinstance(line, str) or "\n" in line:
            return "no line"
        try:
            return self.answer(line)
        except BadRow as error:
            return f"bad row {error.row} {error.word}"
        except BadToken as error:
            return f"bad token {error.place}"
        except NoEnd as error:
            return f"no end {error.name}"
        except NotSo:
            return "not so"
        except Spent:
            return "spent"
        except Nothing:
            return "nothing"
        except BadValue as error:
            return {"text": "bad case"}.get(error.what, "no line")

    def answer(self, line):
        if line.startswith("case "):
            self.case, self.session = cut(line[5:], by="words"), None
            return "done"
        if line.startswith("teller "):
            teller(self.case, line[7:])
            self.rule, self.session = line[7:], None
            return "done"
        if line.startswith("grammar "):
            self.grammar, self.session = Grammar("\n".join(line[8:].split(" ; "))), None
            return "done"
        if line.startswith("prune ") and self.grammar is not None:
            tree = read_tree(self.grammar, line[6:])
            return text_of(pruned(TextTrials(text_teller(self.rule)), self.grammar, tree))
        if line == "least" and self.grammar is not None:
            return text_of(self.grammar.least_tree())
        if line == "begin":
            self.session = Session(teller(self.case, self.rule), len(self.case), most=20000)
            return "done"
        if self.session is None:
            return "no line"
        return self.deed(line)

    def deed(self, line):
        if line == "text":
            return "".join(self.case.pieces()[number] for number in self.session.stands())
        if line == "calls":
            return str(len(self.session.rows()))
        if line.startswith("retell "):
            self.session.retell(teller(self.case, line[7:]))
            self.rule = line[7:]
        elif re.fullmatch(f"halve {NUMBER}", line):
            self.session.halve(calls=int(line[6:]))
        elif re.fullmatch(f"drop( {NUMBER})*", line):
            self.session.drop(tuple(int(word) for word in line.split(" ")[1:]))
        elif line == "close":
            self.session.close(links_of(self.case))
        elif line == "back":
            self.session.back()
        elif line == "again":
            self.session.again()
        else:
            return "no line"
        return "done" + "".join(f" {number}" for number in self.session.stands())


class DeskTests(unittest.TestCase):

    def says(self, *rows, desk=None):
        """A desk, a new one if none is told, answers the lines of rows (LINE, ANSWER) so."""
        desk = Desk() if desk is None else desk
        for at, (line, answer) in enumerate(rows):
            self.assertEqual(desk.say(line), answer, (at, line))
        return desk

    def test_interface(self):
        self.assertEqual(str(inspect.signature(Desk)), "()")
        self.assertEqual(str(inspect.signature(Desk.say)), "(self, line)")
        self.assertIn("say", vars(Desk))
        self.assertEqual(Desk().say(line="case x"), "done")

    def test_at_first(self):
        self.says(("begin", "not so"), ("case x", "done"), ("begin", "done"), ("text", "x"), ("calls", "1"))
        self.says(("least", "no line"), ("prune x", "no line"), ("text", "no line"), ("calls", "no line"),
                  ("teller lacks x", "done"), ("begin", "done"), ("text", ""), ("calls", "1"), ("halve 0", "done"))

    def test_one_session(self):
        self.says(
            ("case let x be x  let y", "done"),
            ("teller both has x has y", "done"),
            ("begin", "done"),
            ("calls", "1"),
            ("text", "let x be x  let y"),
            ("halve 0", "done 0 1 2 3 4 5"),
            ("drop 0 2", "done 1 3 4 5"),
            ("text", "x x  let y"),
            ("drop 1 3", "done 1 3 4 5"),
            ("drop", "done 1 3 4 5"),
            ("calls", "3"),
            ("drop 0 1 2", "done 3 4 5"),
            ("text", "x  let y"),
            ("halve 1000000", "done 3 5"),
            ("text", "x  y"),
            ("back", "done 3 4 5"),
            ("back", "done 1 3 4 5"),
            ("again", "done 3 4 5"),
            ("again", "done 3 5"),
            ("again", "nothing"),
            ("retell has y", "done 3 5"),
            ("calls", "1"),
            ("halve 9", "done 5"),
            ("text", "y"),
            ("back", "done 3 5"),
            ("back", "done 3 5"),
            ("back", "done 3 4 5"),
            ("back", "done 1 3 4 5"),
            ("back", "done 0 1 2 3 4 5"),
            ("back", "nothing"),
            ("text", "let x be x  let y"),
        )

    def test_close_is_by_the_cases_own_links(self):
        # Each PIECE is a word with blanks behind it, so none hangs on another one.
        self.says(("case a b a c", "done"), ("teller has c", "done"), ("begin", "done"), ("close", "done 3"),
                  ("back", "done 0 1 2 3"), ("drop 0", "done 1 2 3"), ("close", "done 3"))

    def test_the_empty_one(self):
        self.says(("teller lacks q", "done"), ("case a b", "done"), ("begin", "done"), ("halve 1", "done"),
                  ("text", ""), ("back", "done 0 1"))

    def test_blanks_of_a_case(self):
        desk = self.says(("case   a  b ", "done"), ("teller has b", "done"), ("begin", "done"),
                         ("text", "  a  b "), ("halve 50", "done 2"), ("text", "b "))
        self.says(("case ", "done"), ("text", "no line"), ("teller lacks b", "done"), ("begin", "done"), ("text", ""),
                  ("case  ", "done"), ("begin", "done"), ("text", " "), ("drop 0", "done"), ("text", ""), desk=desk)

    def test_taken_as_it_is(self):
        for word in ("case", "teller", "grammar", "retell", "prune"):
            self.says((word, "no line"), (" " + word, "no line"), (word + "s x", "no line"), (word.upper(), "no line"))
        ready = (("case x", "done"), ("grammar S = a", "done"), ("begin", "done"))
        self.says(*ready, ("case", "no line"), ("teller", "no line"), ("grammar", "no line"), ("retell", "no line"),
                  ("prune", "no line"), ("text", "x"))
        self.says(*ready, ("teller ", "bad token 0"), ("grammar ", "bad row 1 0"), ("retell ", "bad token 0"),
                  ("prune ", "bad token 0"), ("text", "x"), ("case ", "done"), ("text", "no line"))
        self.says(*ready, ("teller  has x", "bad token 0"), ("teller has x ", "bad token 0"),
                  ("grammar  S = a", "bad row 1 0"), ("retell  has x", "bad token 0"), ("prune  a", "bad token 0"),
                  ("prune a ", "bad token 0"), ("text", "x"))

    def test_no_line(self):
        ready = (("case a b x", "done"), ("grammar S = a", "done"), ("begin", "done"))
        wrong = ["", " ", "  ", "\n", "x", "Begin", "begin ", " begin", "begin  ", "begin 1", "begin x", "halve",
                 "halve ", "halve x", "halve 1 2", "halve  1", "halve 1 ", " halve 1", "halve 01", "halve 00",
                 "halve -1", "halve +1", "halve 1.0", "halve 1000001", "halve 9999999", "halve 10000000",
                 "halve 00000001", "halve 0000001", "drop ", "drop  0", "drop 0 ", "drop x", "drop 0 0", "drop 1 0",
                 "drop 3", "drop 0 3", "drop 01", "drop 00", "drop -1", "drop 9999999", "drop 10000000", "drop 0 1 2 3",
                 "drop 0  1", "drop 0,1", "drop 0 x", "close ", "close x", "close 0", "back ", "back 1", "back x",
                 "again 1", "again ", "text ", "text 0", "text x", "calls ", "calls 1", "least ", "least 1", "least S",
                 "begin\n", "\nbegin", "halve 1\n", "halve\n1", "drop\n0", "case a\nx", "case x\n", "case\nx", "case\n",
                 "teller has x\n", "teller has\nx", "grammar S = a\nT = b", "grammar S = a\n", "retell has x\n",
                 "prune a\n", "text\n", "calls\n", "least\n", "back\n", "drop 1 0\n", "begin begin", "halve begin",
                 "halve 1e3", "halve 1_0", "drop 0;1", "done", "no line"]
        for line in wrong:
            desk = self.says(*ready, ("halve 1", "done 0 1 2"), ("back", "done 0 1 2"))
            self.says((line, "no line"), ("calls", "2"), ("text", "a b x"), ("back", "nothing"),
                      ("again", "done 0 1 2"), ("least", "a"), desk=desk)

    def test_of_anything(self):
        ready = (("case a b x", "done"), ("begin", "done"))
        desk = self.says(*ready)
        for at, thing in enumerate(NO_TEXTS):
            with self.subTest(at=at):
                self.assertEqual(desk.say(thing), "no line")
                self.assertEqual(Desk().say(thing), "no line")
        self.says(("text", "a b x"), desk=desk)

    def test_long_lines(self):
        for line in ("x" * 20000, "drop" + " 1" * 9000, "halve " + "1" * 19000, " " * 20000, "\n" * 20000,
                     "begin" * 4000):
            self.says((line, "no line"))

    def test_numbers(self):
        desk = self.says(("case a b x", "done"), ("begin", "done"), ("halve 1000000", "done 2"), ("back", "done 0 1 2"),
                         ("halve 999999", "done 2"), ("drop 0 1", "done 2"), ("drop 0 1 2", "done 2"))
        self.says(("case " + "x " * 120, "done"), ("begin", "done"), ("drop 0 119", "done " + " ".join(
            str(number) for number in range(1, 119))), ("drop 120", "no line"), desk=desk)

    def test_what_wants_a_session(self):
        lines = ("halve 1", "drop", "drop 0", "close", "retell has x", "retell x", "retell ", "back", "again", "text",
                 "calls")
        for line in lines:
            self.says((line, "no line"), ("case x", "done"), (line, "no line"), ("grammar S = a", "done"),
                      (line, "no line"), ("case a", "done"), ("begin", "not so"), (line, "no line"))

    def test_what_wants_a_grammar(self):
        for line in ("least", "prune a", "prune ", "prune a  b"):
            self.says((line, "no line"), ("case x", "done"), ("begin", "done"), (line, "no line"),
                      ("grammar x", "bad row 1 1"), (line, "no line"))

    def test_a_session_goes_with_a_case_a_teller_a_grammar(self):
        for line in ("case x y", "case ", "teller has x", "teller has y ; has x", "grammar S = a", "grammar " + LISTS):
            self.says(("case x", "done"), ("begin", "done"), (line, "done"), ("text", "no line"),
                      ("halve 1", "no line"), ("calls", "no line"))

    def test_it_stays_where_these_are_refused(self):
        desk = self.says(("case x y", "done"), ("teller has y", "done"), ("grammar S = a b? c", "done"),
                         ("begin", "done"), ("halve 3", "done 1"))
        refused = (("case " + "x " * 121, "bad case"), ("case " + "x" * 201, "bad case"), ("teller has", "bad token 2"),
                   ("teller x", "bad token 1"), ("grammar S = a | a", "bad row 1 5"), ("grammar S = a S", "no end S"),
                   ("grammar S = a ; T", "bad row 2 2"), ("retell has q", "not so"), ("retell has", "bad token 2"))
        for row in refused:
            self.says(row, ("text", "y"), ("calls", "4"), ("least", "a c"), ("prune a b c", "not so"),
                      ("halve 0", "done 1"), ("again", "nothing"), desk=desk)
        self.says(("back", "done 0 1"), ("back", "nothing"), desk=desk)

    def test_bad_case(self):
        self.says(("case " + "x " * 119 + "x", "done"), ("case " + "x " * 120 + "x", "bad case"),
                  ("case " + "x" * 200, "done"), ("case " + "x" * 201, "bad case"),
                  ("case " + "x" * 200 + " ", "bad case"), ("case " + "x" * 199 + " y", "done"),
                  ("case " + " " * 200, "done"), ("case " + " " * 201, "bad case"), ("case a " + "x" * 201, "bad case"),
                  ("teller has y", "done"), ("begin", "not so"), ("teller lacks y", "done"), ("begin", "done"),
                  ("text", " " * 200))

    def test_begin(self):
        self.says(("case a x", "done"), ("begin", "done"), ("drop 0", "done 1"), ("begin", "done"), ("text", "a x"),
                  ("calls", "1"), ("back", "nothing"))
        self.says(("case a x", "done"), ("teller has b ; has a", "done"), ("begin", "not so"), ("text", "no line"))

    def test_a_begin_that_is_refused_leaves_the_session(self):
        # The TELLER behind a retell is the desk's, whatever is taken back, so that it may not FAIL of FULL.
        self.says(("case a b", "done"), ("teller has a", "done"), ("begin", "done"), ("drop 1", "done 0"),
                  ("retell lacks b", "done 0"), ("back", "done 0"), ("begin", "not so"), ("text", "a "),
                  ("calls", "2"), ("back", "done 0 1"))

    def test_the_teller_behind_a_retell(self):
        self.says(("case a b x", "done"), ("teller has a", "done"), ("begin", "done"), ("halve 50", "done 0"),
                  ("retell has b", "done 0 1 2"), ("halve 50", "done 1"), ("back", "done 0 1 2"), ("back", "done 0"),
                  ("drop 0", "done 0"), ("calls", "3"), ("begin", "done"), ("halve 50", "done 1"))
        self.says(("case a b", "done"), ("grammar S = s a? . b? e", "done"), ("teller has a", "done"),
                  ("begin", "done"), ("prune s a . b e", "s a . e"), ("retell has b", "done 0 1"),
                  ("prune s a . b e", "s . b e"), ("back", "done 0 1"), ("prune s a . b e", "s . b e"),
                  ("retell has", "bad token 2"), ("retell has q", "not so"), ("prune s a . b e", "s . b e"))

    def test_nothing_is_known_on_over_a_retell(self):
        self.says(("case a b", "done"), ("teller has a", "done"), ("begin", "done"), ("drop 1", "done 0"),
                  ("calls", "2"), ("retell has a", "done 0"), ("calls", "1"), ("back", "done 0"), ("calls", "2"),
                  ("again", "done 0"), ("calls", "1"))

    def test_back_and_again(self):
        self.says(("case a b x", "done"), ("begin", "done"), ("back", "nothing"), ("again", "nothing"),
                  ("drop", "done 0 1 2"), ("back", "nothing"), ("drop 2", "done 0 1 2"), ("back", "nothing"),
                  ("drop 0", "done 1 2"), ("back", "done 0 1 2"), ("again", "done 1 2"), ("again", "nothing"))

    def test_spent(self):
        desk = self.says(("case " + "x " * 120, "done"), ("teller many x 99", "done"), ("begin", "done"))
        many = 1
        for first in range(120):
            for second in range(first + 1, 120):
                for third in range(second + 1, 120):
                    if many == 20000:
                        break
                    # What is left is one of fewer than 99.
                    others = [number for number in range(120) if number not in (first, second, third)]
                    desk.say("drop " + " ".join(map(str, others)))
                    many += 1
        self.says(("calls", "20000"), ("halve 0", "done " + " ".join(map(str, range(120)))), ("halve 1", "spent"),
                  ("drop 0", "spent"), ("close", "spent"), ("calls", "20000"), ("back", "nothing"),
                  ("retell has x", "done " + " ".join(map(str, range(120)))), ("calls", "1"), desk=desk)

    def test_grammars(self):
        self.says(("grammar S = a", "done"), ("least", "a"), ("grammar S = ( T ) ; T = x | y T", "done"),
                  ("least", "( x )"), ("grammar S = a ;", "done"), ("least", "a ;"),
                  ("grammar S = a ; ; T = b", "bad row 2 1"), ("grammar S = a ;  T = b", "bad row 2 0"),
                  ("grammar S = a  ; T = b", "bad row 1 0"), ("grammar S = a ; ", "bad row 2 0"),
                  ("grammar S", "bad row 1 2"), ("grammar S = a ; T = b T ; U = c U", "no end T"),
                  ("grammar S = a T", "bad row 1 4"), ("grammar s = a", "bad row 1 1"), ("least", "a ;"))
        rows = " ; ".join(f"{name} = a" for name in "ABCDEFGHIJKLMNOPQRSTUVWXYZ")
        self.says(("grammar " + rows + " ; AA = a ; AB = a ; AC = a ; AD = a", "done"),
                  ("grammar " + rows + " ; AA = a ; AB = a ; AC = a ; AD = a ; AE = a", "bad row 31 0"))

    def test_prune(self):
        self.says(("grammar " + LISTS, "done"), ("prune ( x . x bang . )", "( x . )"),
                  ("prune ( [ ( x bang . ) ] )", "( x . )"), ("prune ( )", "not so"), ("prune ( x )", "bad token 3"),
                  ("prune ( x .", "bad token 4"), ("prune y", "bad token 1"), ("prune x .", "bad token 1"),
                  ("teller has bang", "done"), ("prune ( x . [ ( x bang . ) ] x bang . )", "( x bang . )"),
                  ("teller both has bang has [", "done"), ("prune ( x . [ ( x bang . ) ] )", "( [ ( x bang . ) ] )"),
                  ("teller ahead x [ ; has x", "done"), ("prune ( x . [ ( x bang . ) ] )", "( x . [ ( ) ] )"),
                  ("prune ( [ ( x . ) ] )", "not so"),
                  ("teller many x 2", "done"), ("prune ( x . x bang . x . )", "( x . x . )"),
                  ("prune " + "( " * 101, "bad token 0"), ("prune ( " + "x . " * 50 + ")", "bad token 101"),
                  ("prune ( " + "x . " * 49 + ")", "( x . x . )"))

    def test_prune_leaves_the_session(self):
        self.says(("case a x", "done"), ("grammar " + LISTS, "done"), ("begin", "done"), ("halve 1", "done 0 1"),
                  ("prune ( x . x . )", "( x . )"), ("calls", "2"), ("least", "( )"), ("back", "done 0 1"))

    def test_tellers(self):
        self.says(("case a b c", "done"), ("teller has a ; has b", "done"), ("begin", "done"), ("halve 50", "done 0"),
                  ("teller has", "bad token 2"), ("teller has a ; ; has b", "bad token 4"), ("teller ;", "bad token 1"),
                  ("teller " + "not " * 59 + "has x", "bad token 61"), ("text", "a "),
                  ("teller not not not lacks b", "done"), ("begin", "done"), ("halve 50", "done 1"))

    def test_each_desk_by_itself(self):
        one, two = Desk(), Desk()
        one.say("case x")
        one.say("begin")
        self.assertEqual((one.say("text"), two.say("text"), two.say("begin")), ("x", "no line", "not so"))

    def test_answers_are_texts(self):
        desk = Desk()
        for line in ("case x", "begin", "halve 1", "calls", "text", "x", None, "grammar S = a", "least", "prune a"):
            self.assertIs(type(desk.say(line)), str)


class DrawnTests(unittest.TestCase):

    lines = ["case ", "case x", "case a b x a", "case let x be x  let y be y x z", "case " + "x " * 121, "case a b a b",
             "teller has x", "teller has", "teller both has x has y", "teller has b ; has a", "teller lacks a",
             "teller many x 2 ; lacks q", "teller ahead x y", "grammar S = a b? c", "grammar " + LISTS, "grammar S",
             "grammar S = a S", "grammar S = a ; S = b", "begin", "halve 0", "halve 1", "halve 2", "halve 100",
             "halve 01", "drop", "drop 0", "drop 1", "drop 2 3", "drop 0 1 2", "drop 3 2", "drop 119", "close",
             "retell has x", "retell has b", "retell x", "retell lacks y ; has x", "back", "again", "text", "calls",
             "least", "prune a b c", "prune ( x . x bang . )", "prune ( )", "prune ", "begin ", "text\n", "drop 0 "]

    def test_drawn_lines(self):
        seen = set()
        for seed in range(300):
            chance = random.Random(f"desk {seed}")
            weights = [1 + 6 * (line.split(" ")[0] in ("begin", "halve", "drop", "back", "again", "close"))
                       for line in self.lines]
            desk, plain = Desk(), Plain()
            for _ in range(60):
                line = chance.choices(self.lines, weights)[0]
                answer = desk.say(line)
                self.assertEqual(answer, plain.say(line), line)
                seen.add(" ".join(answer.split(" ")[:2]) if answer[:4] in ("no l", "bad ", "not ") else answer[:7])
        wanted = {"no line", "bad row", "bad token", "bad case", "not so", "nothing", "done", "no end "}
        self.assertLessEqual(wanted, seen)

    def test_lines_with_one_thing_otherwise(self):
        signs = " \n0123x;=|?*A~"
        for seed in range(40):
            chance = random.Random(f"signs {seed}")
            desk, plain = Desk(), Plain()
            for _ in range(150):
                line = chance.choice(self.lines)
                if chance.random() < 0.5:
                    at = chance.randint(0, len(line))
                    line = line[:at] + chance.choice(["", chance.choice(signs)]) + line[at + chance.randint(0, 1):]
                self.assertEqual(desk.say(line), plain.say(line), line)


if __name__ == "__main__":
    unittest.main()

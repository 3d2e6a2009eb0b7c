"""REDUCED by levels, CUT LEAST and PRUNED, and PAPERS of that [0], [3], [4], [7], [13], [15], [54] to [57]."""

import inspect
import random
import unittest
from itertools import product

from leastfail.cuts import cut_by, cuts_of
from leastfail.errors import Gone, Nested, NotSo, Spent
from leastfail.grammars import Grammar
from leastfail.pruning import by_levels, check_cuts, cut_down_tree, cut_paper, pruned
from leastfail.texttrials import TextTrials
from leastfail.trees import is_tree, read_tree, text_of
from leastfail.trials import Trials
from tests.anything import NO_TEXT_ROWS, NO_TEXTS, deep_list, deep_tuple, shared_tuple, things
from tests.languages import (LISTS, MANY, NEST, ROUND, all_places, changed, choices_of, right_cuts, tokens_in,
                             trees_of)
from tests.otherwise import STRANGE, is_same, others
from tests.refusals import RefusalTests
from tests.stops import nested_everywhere, stopped_everywhere
from tests.tables import VERDICTS, Told, each_once, way_of_halving

MOST = {LISTS: 12, MANY: 6, NEST: 10, ROUND: 11}
NO_TREES = NO_TEXTS + ["( )", "LIST", ("LIST", 0, ["(", (), ")"]), ("LIST", False, ("(", (), ")")), ("S", 0, ("a",)),
                       ("LIST", 0, ("(", (), "]")), ("LIST", 0, ("(", (("ITEM", 0, ("x", (), ";")),) * 50, ")"))]
REDUCERS = (by_levels, cut_down_tree, pruned)


def joined(tree):
    return " ".join(tokens_in(tree))


def levels_of(text, tree):
    """The OPTIONAL PLACES, rising, by their LEVELS."""
    found = sorted(place for place, (_, marked) in all_places(text, tree).items() if marked)
    told = {}
    for place in found:
        level = sum(other != place and place[:len(other)] == other for other in found)
        told.setdefault(level, []).append(place)
    return told


def with_left(tree, places, parts):
    """The TREE with just these of the PLACES left, the last one that goes going first."""
    for number in reversed(range(len(places))):
        if number not in parts:
            tree = changed(tree, places[number], None)
    return tree


def way_of_levels(text, tell, tree):
    """The TEXTS that are ASKED behind the TREE's own, and what is told."""
    way, level = [], 0
    while level in levels_of(text, tree):
        places = levels_of(text, tree)[level]

        def text_with(parts):
            return joined(with_left(tree, places, parts))
        asked, end, _ = way_of_halving(lambda parts: tell(text_with(parts)), tuple(range(len(places))))
        way += [text_with(parts) for parts, _, _ in asked]
        tree, level = with_left(tree, places, end), level + 1
    return way, tree


def way_of_cuts(text, tell, tree):
    """The TEXTS that are ASKED behind the TREE's own, and what is told."""
    way, going = [], True
    while going:
        going = False
        for _, less in right_cuts(text, tree):
            way.append(joined(less))
            if tell(joined(less)) == "fail":
                tree, going = less, True
                break
    return way, tree


def way_of_pruning(text, tell, tree):
    way, tree = way_of_levels(text, tell, tree)
    more, tree = way_of_cuts(text, tell, tree)
    return way + more, tree


WAYS = {by_levels: way_of_levels, cut_down_tree: way_of_cuts, pruned: way_of_pruning}


def under(text, tree):
    """The TEXTS of all that comes of any cuts of a TREE, but its own."""
    found, ahead = {}, [tree]
    while ahead:
        for _, less in right_cuts(text, ahead.pop()):
            if joined(less) not in found:
                found[joined(less)] = True
                ahead.append(less)
    return list(found)


def drawn(seed, own, weights=(1, 1, 1)):
    """A TEST by chance, the same each time for one seed; it FAILS of one text."""
    def tell(text):
        return "fail" if text == own else random.Random(f"{seed} {text}").choices(VERDICTS, weights)[0]
    return tell


def has_all(*words):
    """A TEST that FAILS of texts that have all of these words, each as often at least."""
    def tell(text):
        return "fail" if all(text.split().count(word) >= words.count(word) for word in words) else "pass"
    return tell


def drawn_trees(seed, many):
    """GRAMMARS, each with a TREE of few TOKENS by chance."""
    chance = random.Random(seed)
    found = [(text, tree) for text in (LISTS, MANY, NEST, ROUND) for name in choices_of(text)
             for tree, count in trees_of(text, name, MOST[text]) if count >= MOST[text] - 3]
    return chance.choices(found, k=many)


def greater_tree(text, chance, most):
    """A TREE of several LEVELS by chance, of at most so many TOKENS."""
    grammar = Grammar(text)
    trees = [grammar.least_tree(name) for name in grammar.names()]
    for _ in range(300):
        name = chance.choice(grammar.names())
        place = chance.randrange(len(grammar.alternatives(name)))
        parts = []
        for item in grammar.alternatives(name)[place]:
            plain = item.rstrip("?*")
            fit = [tree for tree in trees if tree[0] == plain] or [plain]
            many = 1 if plain == item else chance.randint(0, 1 if item[-1] == "?" else 3)
            some = tuple(chance.choice(fit) for _ in range(many))
            parts.append(some[0] if plain == item else some)
        if len(tokens_in((name, place, tuple(parts)))) <= most:
            trees.append((name, place, tuple(parts)))
    return max(trees, key=lambda tree: (len(levels_of(text, tree)), len(tokens_in(tree))))


class InterfaceTests(unittest.TestCase):

    def test_arguments(self):
        for call in (*REDUCERS, cut_paper):
            self.assertEqual(str(inspect.signature(call)), "(trials, grammar, tree)")
        self.assertEqual(str(inspect.signature(check_cuts)), "(grammar, rows, paper)")

    def test_by_name(self):
        grammar = Grammar(LISTS)
        tree = read_tree(grammar, "( x ; x bang ; )")
        for call in REDUCERS:
            trials = TextTrials(has_all("bang"))
            self.assertEqual(text_of(call(tree=tree, trials=trials, grammar=grammar)), "( x bang ; )")
        paper = cut_paper(tree=read_tree(grammar, "( x bang ; )"), trials=trials, grammar=grammar)
        self.assertEqual(paper[1], ("pass",) * 4)
        self.assertIs(check_cuts(paper=paper, rows=trials.rows(), grammar=grammar), True)


class WayTests(unittest.TestCase):

    def right(self, call, text, tell, tree):
        """What is told, and CALLED, in order, is what the document says; asked again nothing is CALLED."""
        grammar = Grammar(text)
        told = Told(tell)
        trials = TextTrials(told.test)
        end = call(trials, grammar, tree)
        way, right = WAYS[call](text, tell, tree)
        self.assertEqual(end, right)
        calls = each_once([joined(tree)] + way)
        self.assertEqual(told.calls, calls)
        self.assertEqual(trials.rows(), [(asked, tell(asked)) for asked in calls])
        self.assertIs(is_tree(grammar, end, name=tree[0]), True)
        self.assertEqual(tell(joined(end)), "fail")
        self.assertLessEqual(len(tokens_in(end)), len(tokens_in(tree)))
        if call is not by_levels:
            self.assertNotIn("fail", [tell(joined(less)) for _, less in right_cuts(text, end)])
        self.assertEqual(call(trials, grammar, tree), end)
        self.assertEqual(len(told.calls), len(calls))

    def test_every_test_of_few_texts(self):
        for text, most, every in ((LISTS, 7, 1), (MANY, 5, 3), (NEST, 6, 1), (ROUND, 9, 1)):
            for name in choices_of(text):
                few = [tree for tree, _ in trees_of(text, name, most) if len(under(text, tree)) <= 4]
                for tree in few[::every]:
                    texts = under(text, tree)
                    for verdicts in product(VERDICTS, repeat=len(texts)):
                        table = {**dict(zip(texts, verdicts)), joined(tree): "fail"}
                        for call in REDUCERS:
                            self.right(call, text, table.__getitem__, tree)

    def test_drawn_tests(self):
        chance = random.Random("tests")
        for at, (text, tree) in enumerate(drawn_trees("trees", 500)):
            weights = chance.choice([(1, 1, 1), (1, 3, 3), (3, 1, 1), (1, 8, 8)])
            for call in REDUCERS:
                self.right(call, text, drawn(at, joined(tree), weights), tree)

    def test_tests_that_want_words(self):
        chance = random.Random("words")
        for text, tree in drawn_trees("words", 300):
            words = chance.sample(tokens_in(tree), chance.randint(0, min(4, len(tokens_in(tree)))))
            for call in REDUCERS:
                self.right(call, text, has_all(*words), tree)

    def test_several_levels(self):
        chance = random.Random("levels")
        seen = set()
        for text in (LISTS, MANY, NEST) * 8:
            tree = greater_tree(text, chance, 30)
            seen.add(len(levels_of(text, tree)))
            words = chance.sample(tokens_in(tree), 3)
            for call in REDUCERS:
                self.right(call, text, has_all(*words), tree)
                self.right(call, text, drawn(chance.random(), joined(tree), (1, 6, 6)), tree)
        self.assertGreaterEqual(max(seen), 4)

    def test_of_what_is_all_wanted(self):
        for text in (LISTS, NEST):
            tree = greater_tree(text, random.Random("all"), 30)
            for call in REDUCERS:
                self.right(call, text, has_all(*tokens_in(tree)), tree)


class LevelTests(unittest.TestCase):

    def calls(self, text, words, told, name=None):
        """The calls of a REDUCING by levels, the first of which is the text itself, and the TEXT of what is told."""
        grammar = Grammar(text)
        seen = Told(told)
        trials = TextTrials(seen.test)
        end = by_levels(trials, grammar, read_tree(grammar, words, name=name))
        self.assertEqual(seen.calls[0], words)
        return seen.calls[1:], text_of(end)

    def test_one_way(self):
        calls, end = self.calls(LISTS, "( x ; [ ( x bang ; ) ] x bang ; )", has_all("[", "bang"))
        self.assertEqual(end, "( [ ( x bang ; ) ] )")
        self.assertEqual(calls, ["( )", "( x ; )", "( [ ( x bang ; ) ] x bang ; )", "( [ ( x bang ; ) ] )",
                                 "( [ ( ) ] )", "( [ ( x ; ) ] )"])

    def test_the_levels_of_the_tree_as_it_is_then(self):
        calls, end = self.calls(LISTS, "( [ ( x ; ) ] x bang ; x bang ; )", has_all("x", "bang", "bang"))
        self.assertEqual(end, "( x bang ; x bang ; )")
        # None of the TREE within the first ITEM is tried, which is gone by then.
        self.assertEqual(calls[-3:], ["( x ; x ; )", "( x bang ; x ; )", "( x ; x bang ; )"])
        self.assertNotIn("( [ ( ) ] )", calls)

    def test_tokens_are_things(self):
        text = "S = a b* . c? d"
        calls, end = self.calls(text, "a b b b . c d", has_all("b"))
        self.assertEqual((calls, end), (["a . d", "a b b . d", "a b . d"], "a b . d"))
        calls, end = self.calls(text, "a b b . c d", has_all("b", "c"))
        self.assertEqual((calls, end), (["a . d", "a b . d", "a b . c d", "a . c d"], "a b . c d"))

    def test_two_levels_of_tokens(self):
        text = "S = a T* e\nT = t u? . v* w"
        calls, end = self.calls(text, "a t u . v v w t . v w e", has_all("u", "v"))
        self.assertEqual(end, "a t u . v w e")
        self.assertEqual(calls, ["a e", "a t u . v v w e", "a t . w e", "a t u . w e", "a t . v v w e", "a t . v w e",
                                 "a t u . v w e"])

    def test_without_optional_places(self):
        for text, words, name in ((ROUND, "( { ( x ) } )", None), (MANY, "c a b a", None), (LISTS, "( )", None),
                                  (NEST, "b", None), (LISTS, "x ;", "ITEM"), (NEST, "c d", "C")):
            self.assertEqual(self.calls(text, words, lambda told: "fail", name), ([], words))

    def test_the_empty_one_fails(self):
        calls, end = self.calls(LISTS, "( x ; [ ( x bang ; ) ] x bang ; )", lambda told: "fail")
        self.assertEqual((calls, end), (["( )"], "( )"))

    def test_the_empty_one_of_a_later_level_fails(self):
        calls, end = self.calls(LISTS, "( x ; [ ( x bang ; x ; ) ] )", has_all("["))
        self.assertEqual((calls, end), (["( )", "( x ; )", "( [ ( x bang ; x ; ) ] )", "( [ ( ) ] )"], "( [ ( ) ] )"))

    def test_as_many_levels_as_may_be(self):
        words = "d " * 49 + "a" + " e" * 49
        told = has_all("a")
        calls, end = self.calls(MANY, words, told)
        self.assertEqual(end, words)
        self.assertEqual(calls, ["d " * many + "e" + " e" * (many - 1) for many in range(1, 50)])

    def test_as_many_things_as_may_be(self):
        words = "f g " + "h " * 97 + "i"
        for many in (0, 1, 50, 97):
            calls, end = self.calls(MANY, words, has_all(*["h"] * many))
            self.assertEqual(end, "f g " + "h " * many + "i")
            self.assertEqual(len(calls), len(set(calls)))

    def test_trees_of_other_names(self):
        calls, end = self.calls(LISTS, "[ ( x ; x bang ; ) ]", has_all("bang"), "ITEM")
        self.assertEqual(end, "[ ( x bang ; ) ]")
        self.assertEqual(calls, ["[ ( ) ]", "[ ( x ; ) ]", "[ ( x bang ; ) ]"])


class CutDownTests(unittest.TestCase):

    def test_from_the_first_anew_behind_each_cut(self):
        grammar = Grammar("S = a b* . c* d")
        told = Told(lambda text: "fail" if text in ("a b . c d", "a b . d", "a . d") else "pass")
        tree = cut_down_tree(TextTrials(told.test), grammar, read_tree(grammar, "a b . c d"))
        self.assertEqual(text_of(tree), "a . d")
        self.assertEqual(told.calls, ["a b . c d", "a . c d", "a b . d", "a . d"])

    def test_one_way(self):
        grammar = Grammar(ROUND)
        told = Told(lambda text: "fail" if "{" in text else "pass")
        tree = cut_down_tree(TextTrials(told.test), grammar, read_tree(grammar, "( { ( { ( x ) } ) } )"))
        self.assertEqual(text_of(tree), "( { ( x ) } )")
        self.assertEqual(told.calls, ["( { ( { ( x ) } ) } )", "( x )", "( { ( x ) } )"])

    def test_what_comes_to_the_least_tree(self):
        grammar = Grammar(NEST)
        for name, words in (("A", "a a b . ; . [ c c d ] x b y ;"), ("B", "x a . [ ] ; y"), ("C", "c c c d")):
            for call in (cut_down_tree, pruned):
                end = call(TextTrials(lambda text: "fail"), grammar, read_tree(grammar, words, name=name))
                self.assertEqual(end, grammar.least_tree(name))

    def test_pruned_goes_on_where_levels_end(self):
        grammar = Grammar(LISTS)
        tree = read_tree(grammar, "( [ ( x bang ; ) ] )")
        self.assertEqual(text_of(by_levels(TextTrials(has_all("bang")), grammar, tree)), "( [ ( x bang ; ) ] )")
        self.assertEqual(text_of(pruned(TextTrials(has_all("bang")), grammar, tree)), "( x bang ; )")

    def test_as_deep_as_may_be(self):
        grammar = Grammar(MANY)
        deep = read_tree(grammar, "b " * 99 + "a")
        for words, end in ((["b"] * 99, deep), (["b"] * 40, read_tree(grammar, "b " * 40 + "a"))):
            told = Told(has_all(*words))
            self.assertEqual(pruned(TextTrials(told.test), grammar, deep), end)
            self.assertEqual(len(told.calls), len(set(told.calls)))


class TrialsTests(RefusalTests):

    def samples(self):
        for at, (text, tree) in enumerate(drawn_trees("stops", 12)):
            yield Grammar(text), tree, drawn(at, joined(tree), (1, 3, 3))
            yield Grammar(text), tree, has_all(*tokens_in(tree)[1:3])

    def test_stopped_anywhere(self):
        for grammar, tree, tell in self.samples():
            for call in REDUCERS:
                stopped_everywhere(self, TextTrials, tell, lambda trials: call(trials, grammar, tree))
            stopped_everywhere(self, TextTrials, tell,
                               lambda trials: cut_paper(trials, grammar, pruned(trials, grammar, tree)))
            stopped_everywhere(self, TextTrials, tell, lambda trials: cut_paper(trials, grammar, tree))

    def test_amid_a_call(self):
        grammar = Grammar(LISTS)
        tree = read_tree(grammar, "( x ; x bang ; )")
        runs = [lambda trials, call=call: call(trials, grammar, tree) for call in (*REDUCERS, cut_paper)]
        trials, seen = nested_everywhere(self, TextTrials, has_all("bang"), runs)
        self.assertEqual(trials.ask("else"), "pass")
        self.assertEqual(seen, ["else"])

    def test_what_is_known_is_not_called(self):
        chance = random.Random("known")
        for grammar, tree, tell in self.samples():
            for call in REDUCERS:
                told = Told(tell)
                end = call(TextTrials(told.test), grammar, tree)
                calls = list(told.calls)
                known = [(text, tell(text)) for text in calls if chance.random() < 0.5]
                told.calls.clear()
                self.assertEqual(call(TextTrials(told.test, known=known), grammar, tree), end)
                self.assertEqual(told.calls, [text for text in calls if text not in dict(known)])

    def test_the_same_trials_by_turns(self):
        for grammar, tree, tell in self.samples():
            told = Told(tell)
            trials = TextTrials(told.test)
            alone = [call(TextTrials(tell), grammar, tree) for call in REDUCERS]
            self.assertEqual([call(trials, grammar, tree) for call in REDUCERS], alone)
            self.assertEqual([call(trials, grammar, tree) for call in reversed(REDUCERS)], alone[::-1])
            self.assertEqual(len(told.calls), len(set(told.calls)))
            self.assertEqual([text for text, _ in trials.rows()], told.calls)

    def test_what_does_not_fail(self):
        grammar = Grammar(LISTS)
        for verdict in ("pass", "unresolved"):
            for call in REDUCERS:
                told = Told(lambda text: verdict)
                trials = TextTrials(told.test)
                with self.assertRaises(NotSo) as caught:
                    call(trials, grammar, read_tree(grammar, "( x ; )"))
                self.assertEqual((caught.exception.parts, caught.exception.verdict), ("( x ; )", verdict))
                self.assertEqual(trials.rows(), [("( x ; )", verdict)])

    def test_refused(self):
        grammar = Grammar(LISTS)
        tree = read_tree(grammar, "( x ; )")
        told = Told(lambda text: "fail")
        trials = TextTrials(told.test, most=0)
        for call in (*REDUCERS, cut_paper):
            no_trials = things() + ["", 0, (), Trials(told.test), told.test]
            self.all_refused("trials", lambda thing: call(thing, grammar, tree), no_trials)
            self.all_refused("trials", lambda thing: call(thing, thing, thing), no_trials)
            self.all_refused("grammar", lambda thing: call(trials, thing, tree), NO_TEXTS + [LISTS])
            self.all_refused("grammar", lambda thing: call(trials, thing, thing), NO_TEXTS + [LISTS])
            self.all_refused("tree", lambda thing: call(trials, grammar, thing), NO_TREES)
            self.refused("tree", call, trials, Grammar(ROUND), tree)
            with self.assertRaises(Spent):
                call(trials, grammar, tree)
        self.assertEqual(told.calls, [])


class PaperTests(RefusalTests):

    def test_of_whatever_trees(self):
        for at, (text, tree) in enumerate(drawn_trees("papers", 250)):
            grammar = Grammar(text)
            tell = drawn(at, joined(tree), (1, 6, 6))
            for one in (tree, way_of_pruning(text, tell, tree)[1]):
                told = Told(tell)
                trials = TextTrials(told.test)
                verdicts = tuple(tell(joined(less)) for _, less in right_cuts(text, one))
                paper = None if "fail" in verdicts else (one, verdicts)
                self.assertEqual(cut_paper(trials, grammar, one), paper)
                self.assertEqual(told.calls[0], joined(one))
                self.assertEqual(len(told.calls), len(set(told.calls)))
                self.assertIs(check_cuts(grammar, trials.rows(), (one, verdicts)), paper is not None)

    def test_where_the_tree_does_not_fail_nothing_else_is_asked(self):
        grammar = Grammar(LISTS)
        for verdict in ("pass", "unresolved"):
            told = Told(lambda text: verdict)
            self.assertIsNone(cut_paper(TextTrials(told.test), grammar, read_tree(grammar, "( x ; x bang ; )")))
            self.assertEqual(told.calls, ["( x ; x bang ; )"])

    def test_what_is_pruned_has_a_paper_by_what_is_known(self):
        for text, tree in drawn_trees("pruned", 150):
            grammar = Grammar(text)
            told = Told(has_all(*tokens_in(tree)[1:4]))
            trials = TextTrials(told.test)
            end = pruned(trials, grammar, tree)
            many = len(told.calls)
            paper = cut_paper(trials, grammar, end)
            self.assertEqual(len(told.calls), many)
            self.assertIs(check_cuts(grammar, trials.rows(), paper), True)
            self.assertIs(check_cuts(grammar, tuple(trials.known_rows()), paper), True)

    def test_of_a_tree_without_cuts(self):
        grammar = Grammar(ROUND)
        least = grammar.least_tree()
        self.assertEqual(cut_paper(TextTrials(lambda text: "fail"), grammar, least), (least, ()))
        self.assertIs(check_cuts(grammar, [("( x )", "fail")], (least, ())), True)
        for rows in ([], [("( x )", "pass")], [("( x )", "unresolved")], [("( x ) ", "fail")]):
            self.assertIs(check_cuts(grammar, rows, (least, ())), False)

    def papers(self):
        """GRAMMARS, rows, and PAPERS that come out by them."""
        for at, (text, tree) in enumerate(drawn_trees("checked", 25)):
            tell = drawn(at, joined(tree), (1, 4, 4))
            end = way_of_pruning(text, tell, tree)[1]
            texts = [joined(end)] + [joined(less) for _, less in right_cuts(text, end)]
            rows = [(one, tell(one)) for one in each_once(texts)]
            yield Grammar(text), rows, (end, tuple(tell(one) for one in texts[1:]))

    def test_with_one_thing_otherwise(self):
        for grammar, rows, paper in self.papers():
            for told in (rows, tuple(rows), rows[::-1], rows + [("else", "fail")], [("", "pass")] + rows):
                self.assertIs(check_cuts(grammar, told, paper), True)
            for other in others(paper):
                if not is_same(other, paper):
                    self.assertIs(check_cuts(grammar, rows, other), False)

    def test_rows_that_lack_or_tell_otherwise(self):
        for grammar, rows, paper in self.papers():
            for at, (text, verdict) in enumerate(rows):
                self.assertIs(check_cuts(grammar, rows[:at] + rows[at + 1:], paper), False)
                for other in VERDICTS:
                    told = rows[:at] + [(text, other)] + rows[at + 1:]
                    self.assertIs(check_cuts(grammar, told, paper), other == verdict)

    def test_verdicts_and_rows_otherwise_alike(self):
        grammar = Grammar("S = a b* d")
        tree = read_tree(grammar, "a b d")
        # Dropped, and made least, it comes to the same.
        self.assertEqual(len(cuts_of(grammar, tree)), 2)
        for verdict in VERDICTS:
            rows = [("a b d", "fail"), ("a d", verdict)]
            self.assertIs(check_cuts(grammar, rows, (tree, (verdict, verdict))), verdict != "fail")
        rows = [("a b d", "fail"), ("a d", "pass")]
        for verdicts in (("pass", "unresolved"), ("unresolved", "pass"), ("pass",), ("pass",) * 3, (None, None), ()):
            self.assertIs(check_cuts(grammar, rows, (tree, verdicts)), False)
        self.assertIs(check_cuts(grammar, rows[:1], (tree, (None, None))), False)

    def test_trees_of_other_names_and_of_other_grammars(self):
        grammar = Grammar(LISTS)
        tree = read_tree(grammar, "x bang ;", name="ITEM")
        rows = [("x bang ;", "fail"), ("x ;", "pass")]
        paper = cut_paper(TextTrials(has_all("bang")), grammar, tree)
        self.assertEqual(paper, (tree, ("pass", "pass")))
        self.assertIs(check_cuts(grammar, rows, paper), True)
        self.assertIs(check_cuts(Grammar(ROUND), rows, paper), False)

    def test_of_anything(self):
        grammar = Grammar(LISTS)
        tree = read_tree(grammar, "( x ; )")
        rows = [("( x ; )", "fail"), ("( )", "pass")]
        right = (tree, ("pass", "pass"))
        self.assertIs(check_cuts(grammar, rows, right), True)
        deep = ("LIST", 0, ("(", (deep_tuple(),), ")"))
        for at, thing in enumerate(things() + STRANGE + [deep, (deep, ())]):
            with self.subTest(at=at):
                for paper in (thing, (thing, ()), (thing, ("pass", "pass")), (tree, thing), (tree, (thing, "pass")),
                              (tree, ("pass", thing)), (thing, thing), [thing], (tree, ("pass", "pass"), thing),
                              (("LIST", 0, thing), ("pass", "pass")), (("LIST", thing, ("(", (), ")")), ())):
                    self.assertIs(check_cuts(grammar, rows, paper), is_same(paper, right))

    def test_refused(self):
        grammar = Grammar(LISTS)
        for paper in (None, deep_tuple(), deep_list(), shared_tuple(), (grammar.least_tree(), ())):
            self.all_refused("grammar", lambda thing: check_cuts(thing, None, paper), NO_TEXTS + [LISTS])
            self.all_refused("rows", lambda thing: check_cuts(grammar, thing, paper), NO_TEXT_ROWS + things())
        for rows in ([], ()):
            self.assertIs(check_cuts(grammar, rows, None), False)

    def test_nothing_is_changed(self):
        grammar = Grammar("S = a b* d")
        rows = [("a b d", "fail"), ("a d", "pass")]
        self.assertIs(check_cuts(grammar, rows, (read_tree(grammar, "a b d"), ("pass", "pass"))), True)
        self.assertEqual(rows, [("a b d", "fail"), ("a d", "pass")])

    def test_papers_tell_of_each_cut_in_order(self):
        grammar = Grammar("S = a b* . c? d")
        verdicts = {"a b . c d": "fail", "a . c d": "pass", "a b . d": "unresolved", "a . d": "pass"}
        tree = read_tree(grammar, "a b . c d")
        paper = cut_paper(TextTrials(verdicts.__getitem__), grammar, tree)
        self.assertEqual([text_of(cut_by(grammar, tree, cut)) for cut in cuts_of(grammar, tree)],
                         ["a . c d", "a b . d", "a . d"])
        self.assertEqual(paper, (tree, ("pass", "unresolved", "pass")))

    def test_what_ask_raises(self):
        grammar = Grammar(LISTS)
        tree = read_tree(grammar, "( x ; )")

        def test(text):
            raise Gone(text)
        for call in (*REDUCERS, cut_paper):
            with self.assertRaises(Gone) as caught:
                call(TextTrials(test), grammar, tree)
            self.assertEqual(caught.exception.why, "( x ; )")
            with self.assertRaises(Nested):
                call(TextTrials(lambda text: trials_of(text)), grammar, tree)


def trials_of(text):
    """A TEST that meets a Nested."""
    raise Nested()


if __name__ == "__main__":
    unittest.main()

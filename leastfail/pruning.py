"""PRUNED: a failing TREE made less, all that is tried being of the language."""

from leastfail.cases import full
from leastfail.cuts import cuts_of, done, optional, trees_in
from leastfail.errors import BadValue
from leastfail.grammars import want_grammar
from leastfail.halving import halved
from leastfail.kinds import is_tuple_of
from leastfail.texttrials import TextTrials, is_text_row
from leastfail.trees import is_branch, is_tree, text_of, want_tree
from leastfail.trials import MOST_HANDED, Trials, is_verdict, known_by, want_verdict


def want_kinds(trials, grammar, tree):
    """Refuses what are no TEXT TRIALS, no GRAMMAR, and no TREE of it."""
    if not isinstance(trials, TextTrials):
        raise BadValue("trials")
    want_tree(grammar, tree)


def want_failing_tree(trials, grammar, tree):
    """Refuses what no TREE can be made less from."""
    want_kinds(trials, grammar, tree)
    want_verdict(trials, text_of(tree), "fail")


def of_level(tree, level):
    """The OPTIONAL PLACES of a TREE that are of a LEVEL, rising."""
    found = optional(tree)
    begins = {place: True for place in found}
    # A PLACE goes through those OPTIONAL ones that it begins with.
    return [place for place in found
            if len([at for at in range(len(place)) if place[:at] in begins]) == level]


def things_without(things, place, gone):
    """What is left of the THINGS of a MARKED PART at a place without those at the PLACES that are gone."""
    left = []
    for number, thing in enumerate(things):
        here = place + (number,)
        if here not in gone:
            left.append(tree_without(thing, here, gone) if is_branch(thing) else thing)
    return tuple(left)


def tree_without(tree, place, gone):
    """What is left of a TREE at a PLACE without the THINGS at the PLACES that are gone."""
    name, choice, parts = tree
    left = []
    for at, part in enumerate(parts):
        if is_branch(part):
            left.append(tree_without(part, place + (at,), gone))
        elif isinstance(part, tuple):
            left.append(things_without(part, place + (at,), gone))
        else:
            left.append(part)
    return name, choice, tuple(left)


def kept_of(tree, places, parts):
    """The TREE that has, of these OPTIONAL PLACES, just the THINGS of a CONFIGURATION left."""
    gone = {places[number]: True for number in range(len(places)) if number not in parts}
    return tree_without(tree, (), gone)


def halved_level(trials, tree, places):
    """The TREE that a HALVING of its THINGS at these PLACES comes to."""
    # What may be CALLED is bounded by the TEXT TRIALS, so these bound nothing.
    by_parts = Trials(lambda parts: trials.ask(text_of(kept_of(tree, places, parts))), most=MOST_HANDED)
    return kept_of(tree, places, halved(by_parts, full(len(places))))


def by_levels(trials, grammar, tree):
    """A failing TREE REDUCED by levels."""
    want_failing_tree(trials, grammar, tree)
    level = 0
    places = of_level(tree, level)
    while places:
        tree = halved_level(trials, tree, places)
        level += 1
        places = of_level(tree, level)
    return tree


def first_cut(trials, grammar, tree):
    """What comes of the first ALLOWED CUT that comes to what FAILS, or None."""
    trees = trees_in(tree)
    for cut in cuts_of(grammar, tree):
        less = done(grammar, trees, cut)
        if trials.fails(text_of(less)):
            return less
    return None


def cut_down_tree(trials, grammar, tree):
    """The CUT LEAST TREE that is come to by one ALLOWED CUT after another."""
    want_failing_tree(trials, grammar, tree)
    less = first_cut(trials, grammar, tree)
    while less is not None:
        tree = less
        less = first_cut(trials, grammar, tree)
    return tree


def pruned(trials, grammar, tree):
    """A failing TREE REDUCED by levels, then cut down: it is CUT LEAST."""
    return cut_down_tree(trials, grammar, by_levels(trials, grammar, tree))


def texts_of_cuts(grammar, tree):
    """The TEXTS of what comes of all ALLOWED CUTS, in their order."""
    trees = trees_in(tree)
    return [text_of(done(grammar, trees, cut)) for cut in cuts_of(grammar, tree)]


def cut_paper(trials, grammar, tree):
    """The PAPER of a CUT LEAST TREE, or None."""
    want_kinds(trials, grammar, tree)
    if not trials.fails(text_of(tree)):
        return None
    verdicts = tuple([trials.ask(text) for text in texts_of_cuts(grammar, tree)])
    return None if "fail" in verdicts else (tree, verdicts)


def check_cuts(grammar, rows, paper):
    """Whether the PAPER of a CUT LEAST TREE comes out by rows (TEXT, VERDICT)."""
    want_grammar(grammar)
    known = known_by(rows, is_text_row)
    if not is_tuple_of(paper, 2) or not is_tree(grammar, paper[0]):
        return False
    tree, verdicts = paper
    texts = texts_of_cuts(grammar, tree)
    if known.get(text_of(tree)) != "fail" or not is_tuple_of(verdicts, len(texts)):
        return False
    # No VERDICT is None, as where a row lacks.
    return all([is_verdict(verdict) and verdict != "fail" and verdict == known.get(text)
                for verdict, text in zip(verdicts, texts)])

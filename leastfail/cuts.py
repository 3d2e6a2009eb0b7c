"""PLACES in TREES, and the CUTS that leave a TREE a TREE."""

from leastfail.errors import BadValue
from leastfail.kinds import is_number
from leastfail.trees import MOST_TOKENS, is_branch, tokens_of, want_tree


def placed(tree):
    """All PLACES of a TREE, each with the THING there and whether it is OPTIONAL."""
    found = []
    ahead = [((), tree, False)]
    while ahead:
        place, thing, may_lack = ahead.pop()
        found.append((place, thing, may_lack))
        for at, part in enumerate(thing[2] if is_branch(thing) else ()):
            if is_branch(part):
                ahead.append((place + (at,), part, False))
            elif isinstance(part, tuple):
                ahead += [(place + (at, number), one, True) for number, one in enumerate(part)]
    return found


def places(tree):
    """The PLACES of all TREES in a TREE, itself, too, rising."""
    return sorted([place for place, thing, may_lack in placed(tree) if is_branch(thing)])


def optional(tree):
    """The OPTIONAL PLACES of a TREE, rising."""
    return sorted([place for place, thing, may_lack in placed(tree) if may_lack])


def is_place(thing):
    """Whether anything is a PLACE by its form."""
    if not isinstance(thing, tuple) or len(thing) > 2 * MOST_TOKENS:
        return False
    return all([is_number(number, 0, MOST_TOKENS) for number in thing])


def thing_at(tree, place):
    """The TREE or the TOKEN at a PLACE."""
    things = {at: thing for at, thing, may_lack in placed(tree)}
    if not is_place(place) or place not in things:
        raise BadValue("place")
    return things[place]


def trees_in(tree):
    """All TREES in a TREE, itself, too, by their PLACES."""
    return {place: thing for place, thing, may_lack in placed(tree) if is_branch(thing)}


def is_more(grammar, tree):
    """Whether a TREE has more TOKENS than the LEAST one of its NAME."""
    return len(tokens_of(tree)) > grammar.count_of(tree[0])


def cuts_of(grammar, tree):
    """All ALLOWED CUTS of a TREE, in their order."""
    want_tree(grammar, tree)
    trees = trees_in(tree)
    drops = [("drop", place) for place in optional(tree)]
    leasts = [("least", place) for place in trees if is_more(grammar, trees[place])]
    lifts = [("lift", place, lower[len(place):]) for place in trees for lower in trees
             if len(lower) > len(place) and lower[:len(place)] == place and trees[lower][0] == trees[place][0]]
    return drops + sorted(leasts) + sorted(lifts)


def is_cut(thing):
    """Whether anything is a CUT by its form."""
    if not isinstance(thing, tuple) or not 2 <= len(thing) <= 3 or not isinstance(thing[0], str):
        return False
    return all([is_place(place) for place in thing[1:]])


def is_allowed(grammar, tree, cut):
    """Whether a CUT, right by its form, is an ALLOWED one of a TREE."""
    if cut[0] == "drop":
        return len(cut) == 2 and cut[1] in optional(tree)
    trees = trees_in(tree)
    if cut[1] not in trees:
        return False
    if cut[0] == "least":
        return len(cut) == 2 and is_more(grammar, trees[cut[1]])
    if cut[0] != "lift" or len(cut) != 3 or cut[2] == ():
        return False
    lower = cut[1] + cut[2]
    return lower in trees and trees[lower][0] == trees[cut[1]][0]


def put(tree, place, things):
    """A TREE with these THINGS, one or none, in the place of the one at a PLACE."""
    if place == ():
        return things[0]
    name, choice, parts = tree
    at = place[0]
    if is_branch(parts[at]):
        part = put(parts[at], place[1:], things)
    else:
        number = place[1]
        if len(place) > 2:
            things = (put(parts[at][number], place[2:], things),)
        part = parts[at][:number] + things + parts[at][number + 1:]
    return name, choice, parts[:at] + (part,) + parts[at + 1:]


def done(grammar, trees, cut):
    """What comes of a CUT of which it is known that it is an ALLOWED one, by all TREES in a TREE."""
    tree = trees[()]
    if cut[0] == "drop":
        return put(tree, cut[1], ())
    if cut[0] == "least":
        return put(tree, cut[1], (grammar.least_tree(trees[cut[1]][0]),))
    return put(tree, cut[1], (trees[cut[1] + cut[2]],))


def cut_by(grammar, tree, cut):
    """What comes of an ALLOWED CUT of a TREE."""
    want_tree(grammar, tree)
    if not is_cut(cut) or not is_allowed(grammar, tree, cut):
        raise BadValue("cut")
    return done(grammar, trees_in(tree), cut)

"""GRAMMARS for tests, and all TREES of them, made in the plainest way."""

from functools import lru_cache
from itertools import product

from leastfail.grammars import Grammar

LISTS = "LIST = ( ITEM* )\nITEM = x bang? ; | [ LIST ]"
MANY = "S = a | b S | c S S | d S? e | f T* g h* i\nT = t | u S v"
NEST = "A = a A? . B* ; | b\nB = [ C? ] | x A y\nC = c c* d"
ROUND = "S = ( T )\nT = x | { S }"
ALL = (LISTS, MANY, NEST, ROUND)


def choices_of(text):
    """The ALTERNATIVES of each NAME."""
    rows = [row.split(" = ") for row in text.split("\n")]
    return {name: [choice.split(" ") for choice in rest.split(" | ")] for name, rest in rows}


def capital(item):
    return item[0].isupper()


@lru_cache(None)
def trees_of(text, name, most):
    """All TREES of a NAME with at most so many TOKENS, each with how many it has."""
    found = []
    for place, items in enumerate(choices_of(text)[name]):
        rows = [((), 0)]
        for at, item in enumerate(items):
            grown = []
            for parts, count in rows:
                # What stands ahead has a TOKEN at least, but at the first place, which has one itself.
                room = most - count
                if at == 0 and room < 1:
                    continue
                grown += [(parts + (part,), count + many) for part, many in parts_of(text, item, room)]
            rows = grown
        found += [((name, place, parts), count) for parts, count in rows]
    return found


@lru_cache(None)
def parts_of(text, item, room):
    """All PARTS that an ITEM can have with at most so many TOKENS."""
    if item[-1] not in "?*":
        if capital(item):
            return trees_of(text, item, room) if room > 0 else []
        return [(item, 1)] if room > 0 else []
    found = [((), 0)]
    grown = found
    while grown:
        grown = [(things + (thing,), count + many) for things, count in grown
                 for thing, many in parts_of(text, item[:-1], room - count)]
        found = found + grown
        if item[-1] == "?":
            break
    return found


def tokens_in(thing):
    """The TOKENS of a TREE, a PART or a THING."""
    if isinstance(thing, str):
        return [thing]
    if len(thing) == 3 and isinstance(thing[1], int):
        thing = thing[2]
    return [token for part in thing for token in tokens_in(part)]


def words_of(text):
    """All TOKENS that a GRAMMAR has."""
    words = {word.rstrip("?*") for row in text.split("\n") for word in row.split(" ")}
    return sorted(word for word in words if word and word not in "=|" and not capital(word))


def sequences(words, most):
    """All rows of at least one and at most so many words."""
    return [row for many in range(1, most + 1) for row in product(words, repeat=many)]


def all_places(text, thing, place=()):
    """By the GRAMMAR: the PLACES of all TREES and of what is MARKED, each with the THING and whether it is OPTIONAL."""
    found = {}
    name, choice, parts = thing
    for at, (item, part) in enumerate(zip(choices_of(text)[name][choice], parts)):
        marked = item[-1] in "?*"
        for number, one in enumerate(part if marked else (part,)):
            here = place + ((at, number) if marked else (at,))
            if marked or isinstance(one, tuple):
                found[here] = one, marked
            if isinstance(one, tuple):
                found.update(all_places(text, one, here))
    return {place: (thing, False), **found} if place == () else found


def changed(thing, place, new):
    """A TREE with another THING, or none, at a PLACE, made by lists."""
    if place == ():
        return new
    name, choice, parts = thing
    parts = list(parts)
    at, *rest = place
    part = parts[at]
    if len(part) == 3 and isinstance(part[1], int):
        parts[at] = changed(part, tuple(rest), new)
    else:
        row = list(part)
        if len(rest) == 1 and new is None:
            del row[rest[0]]
        else:
            row[rest[0]] = changed(row[rest[0]], tuple(rest[1:]), new)
        parts[at] = tuple(row)
    return name, choice, tuple(parts)


def right_cuts(text, tree):
    """Each ALLOWED CUT with what comes of it, in their order."""
    found = all_places(text, tree)
    trees = {place: thing for place, (thing, _) in found.items() if isinstance(thing, tuple)}
    rows = [(("drop", place), changed(tree, place, None)) for place, (_, marked) in sorted(found.items()) if marked]
    for place in sorted(trees):
        least = Grammar(text).least_tree(trees[place][0])
        if len(tokens_in(trees[place])) > len(tokens_in(least)):
            rows.append((("least", place), changed(tree, place, least)))
    lifts = []
    for place in trees:
        for lower in trees:
            behind = lower[len(place):]
            if behind and place + behind == lower and trees[place][0] == trees[lower][0]:
                lifts.append((("lift", place, behind), changed(tree, place, trees[lower])))
    return rows + sorted(lifts)

"""GRAMMARS for tests, and all TREES of them, made in the plainest way."""

from functools import lru_cache
from itertools import product

LISTS = "LIST = ( ITEM* )\nITEM = x bang? ; | [ LIST ]"
MANY = "S = a | b S | c S S | d S? e | f T* g h* i\nT = t | u S v"
NEST = "A = a A? . B* ; | b\nB = [ C? ] | x A y\nC = c c* d"
ROUND = "S = ( T )\nT = x | { S }"
ALL = (LISTS, MANY, NEST, ROUND)


def choices_of(text):
    """The ALTERNATIVES of each NAME."""
    rows = [row.split(" = ") for row in text.split("\n")]
    return {name: [choice.split(" ") for choice in rest.split(" | ")] for name, rest in rows}


def capital(item):
    return item[0].isupper()


@lru_cache(None)
def trees_of(text, name, most):
    """All TREES of a NAME with at most so many TOKENS, each with how many it has."""
    found = []
    for place, items in enumerate(choices_of(text)[name]):
        rows = [((), 0)]
        for at, item in enumerate(items):
            grown = []
            for parts, count in rows:
                # What stands ahead has a TOKEN at least, but at the first place, which has one itself.
                room = most - count
                if at == 0 and room < 1:
                    continue
                grown += [(parts + (part,), count + many) for part, many in parts_of(text, item, room)]
            rows = grown
        found += [((name, place, parts), count) for parts, count in rows]
    return found


@lru_cache(None)
def parts_of(text, item, room):
    """All PARTS that an ITEM can have with at most so many TOKENS."""
    if item[-1] not in "?*":
        if capital(item):
            return trees_of(text, item, room) if room > 0 else []
        return [(item, 1)] if room > 0 else []
    found = [((), 0)]
    grown = found
    while grown:
        grown = [(things + (thing,), count + many) for things, count in grown
                 for thing, many in parts_of(text, item[:-1], room - count)]
        found = found + grown
        if item[-1] == "?":
            break
    return found


def tokens_in(thing):
    """The TOKENS of a TREE, a PART or a THING."""
    if isinstance(thing, str):
        return [thing]
    if len(thing) == 3 and isinstance(thing[1], int):
        thing = thing[2]
    return [token for part in thing for token in tokens_in(part)]


def words_of(text):
    """All TOKENS that a GRAMMAR has."""
    words = {word.rstrip("?*") for row in text.split("\n") for word in row.split(" ")}
    return sorted(word for word in words if word and word not in "=|" and not capital(word))


def sequences(words, most):
    """All rows of at least one and at most so many words."""
    return [row for many in range(1, most + 1) for row in product(words, repeat=many)]

"""LINKS: what hangs on what."""

from leastfail.cases import MOST_PIECES, want_case, want_configuration, without
from leastfail.errors import BadValue
from leastfail.kinds import is_number, is_tuple_of


def is_link(thing, count):
    """Whether anything is a pair of two unlike numbers below COUNT."""
    if not is_tuple_of(thing, 2):
        return False
    highest = min(count, MOST_PIECES) - 1
    return all([is_number(number, 0, highest) for number in thing]) and thing[0] != thing[1]


def is_links(thing, count=MOST_PIECES):
    """Whether anything is LINKS of COUNT pieces."""
    if not isinstance(thing, tuple):
        return False
    before = ()
    for pair in thing:
        if not is_link(pair, count) or pair <= before:
            return False
        before = pair
    return True


def want_links(thing, count=MOST_PIECES):
    """Refuses what is no LINKS of COUNT pieces."""
    if not is_links(thing, count):
        raise BadValue("links")


def by_first(pairs):
    """The second numbers of pairs, by their first ones."""
    found = {}
    for first, second in pairs:
        found.setdefault(first, []).append(second)
    return found


def by_second(pairs):
    """The first numbers of pairs, by their second ones."""
    return by_first([(second, first) for first, second in pairs])


def reached(behind, numbers):
    """The numbers, and all that stands behind them, behind that, and so on, as a CONFIGURATION."""
    seen = {number: True for number in numbers}
    ahead = list(numbers)
    while ahead:
        last = ahead.pop()
        fresh = [number for number in behind.get(last, []) if number not in seen]
        for number in fresh:
            seen[number] = True
        ahead += fresh
    return tuple(sorted(seen))


def closure(links, parts):
    """The least CLOSED CONFIGURATION that one is WITHIN."""
    want_links(links)
    want_configuration(parts, "parts")
    return reached(by_first(links), parts)


def is_closed(links, parts):
    """Whether a CONFIGURATION has all that any of its numbers hangs on."""
    return closure(links, parts) == parts


def fall(links, number):
    """A number and all that hang on it."""
    want_links(links)
    if not is_number(number, 0, MOST_PIECES - 1):
        raise BadValue("number")
    return reached(by_second(links), (number,))


def without_fall(links, parts, number):
    """Those in a CONFIGURATION that neither are the number nor hang on it."""
    want_links(links)
    want_configuration(parts, "parts")
    return without(parts, fall(links, number))


def falls_of(links, parts):
    """The FALLS of all numbers of a CONFIGURATION, by number; of right kinds alone."""
    hanging = by_second(links)
    return {number: reached(hanging, (number,)) for number in parts}


def words_in(text):
    """The WORDS of a text, which stand between blanks and line ends."""
    return [word for word in text.replace("\n", " ").split(" ") if word]


def links_of(case):
    """A CASE's own LINKS."""
    want_case(case)
    tellers = {}
    found = set()
    for number, piece in enumerate(case.pieces()):
        words = words_in(piece)
        for word in words[1:]:
            if word in tellers:
                found.add((number, tellers[word]))
        # Only now, so that no PIECE hangs on itself.
        if words:
            tellers[words[0]] = number
    return tuple(sorted(found))

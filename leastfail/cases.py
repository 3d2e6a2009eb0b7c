"""CASES, their PIECES, and CONFIGURATIONS of these."""

from leastfail.errors import BadValue
from leastfail.kinds import is_number

MOST_PIECES = 120
MOST_SIGNS = 200
WAYS = ("lines", "words", "signs")
GAPS = " \n"


def is_configuration(thing, count=MOST_PIECES):
    """Whether anything is a CONFIGURATION of COUNT pieces."""
    if not isinstance(thing, tuple):
        return False
    highest = min(count, MOST_PIECES) - 1
    low = 0
    for number in thing:
        if not is_number(number, low, highest):
            return False
        low = number + 1
    return True


def want_configuration(thing, what, count=MOST_PIECES):
    """Refuses what is no CONFIGURATION of COUNT pieces."""
    if not is_configuration(thing, count):
        raise BadValue(what)


def full(count):
    """The CONFIGURATION of all of COUNT pieces."""
    if not is_number(count, 0, MOST_PIECES):
        raise BadValue("count")
    return tuple(range(count))


def without(parts, others):
    """The numbers of the first CONFIGURATION that the second hasn't."""
    want_configuration(parts, "parts")
    want_configuration(others, "others")
    return tuple([number for number in parts if number not in others])


def together(parts, others):
    """The numbers of both CONFIGURATIONS."""
    want_configuration(parts, "parts")
    want_configuration(others, "others")
    return tuple(sorted(set(parts + others)))


def is_within(parts, others):
    """Whether all numbers of the first CONFIGURATION are among the second one's."""
    return without(parts, others) == ()


def one_less(parts):
    """All ONE LESS of a CONFIGURATION, the one without the last number first."""
    want_configuration(parts, "parts")
    return [parts[:at] + parts[at + 1:] for at in reversed(range(len(parts)))]


def parted(parts, many):
    """A CONFIGURATION in so many rows of consecutive numbers, as even as can be."""
    want_configuration(parts, "parts")
    count = len(parts)
    if not is_number(many, 1, count):
        raise BadValue("many")
    return [parts[k * count // many:(k + 1) * count // many] for k in range(many)]


def are_pieces(thing):
    """Whether anything is a list or a tuple of what can be the PIECES of a CASE."""
    if not isinstance(thing, (list, tuple)) or len(thing) > MOST_PIECES:
        return False
    return all([isinstance(piece, str) and len(piece) <= MOST_SIGNS for piece in thing])


class Case:
    """An input as its PIECES, numbered from 0."""

    def __init__(self, pieces):
        if not are_pieces(pieces):
            raise BadValue("pieces")
        self.texts = tuple(pieces)

    def pieces(self):
        """All PIECES, in their order."""
        return list(self.texts)

    def joined(self, parts=None):
        """The PIECES of a CONFIGURATION as one text, of all if none is told."""
        if parts is None:
            return "".join(self.texts)
        return "".join(self.kept(parts).texts)

    def kept(self, parts):
        """Another CASE, of the PIECES of a CONFIGURATION alone."""
        want_configuration(parts, "parts", len(self.texts))
        return Case([self.texts[number] for number in parts])

    def __eq__(self, other):
        return isinstance(other, Case) and self.texts == other.texts

    def __len__(self):
        return len(self.texts)

    def __str__(self):
        return "".join(self.texts)

    def __repr__(self):
        return f"Case({len(self.texts)} pieces)"


def want_case(thing):
    """Refuses what is no CASE."""
    if not isinstance(thing, Case):
        raise BadValue("case")


def cut_lines(text):
    """A text in pieces that end behind a line end, or where the text ends."""
    *ended, rest = text.split("\n")
    pieces = [line + "\n" for line in ended]
    return pieces + [rest] if rest else pieces


def cut_words(text):
    """A text in pieces that end where blanks and line ends do."""
    pieces = []
    begin = 0
    for at in range(1, len(text)):
        if text[at - 1] in GAPS and text[at] not in GAPS:
            pieces.append(text[begin:at])
            begin = at
    return pieces + [text[begin:]] if text else pieces


def cut(text, *, by="lines"):
    """The CASE that a text is CUT into."""
    if not isinstance(text, str):
        raise BadValue("text")
    if not isinstance(by, str) or by not in WAYS:
        raise BadValue("by")
    if by == "lines":
        pieces = cut_lines(text)
    elif by == "words":
        pieces = cut_words(text)
    else:
        pieces = list(text)
    if not are_pieces(pieces):
        raise BadValue("text")
    return Case(pieces)

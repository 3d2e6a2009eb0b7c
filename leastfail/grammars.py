"""GRAMMARS, told by a text of rows, and the COUNTS of their NAMES."""

from leastfail.errors import BadValue, NoEnd
from leastfail.forms import is_marked, is_token, rows_of, want_rows
from leastfail.kinds import is_number, is_tuple_of

# As many TOKENS as a TREE has at most; trees, which tell that number, are made of grammars.
MOST_COUNT = 100


def comes_to(items, counts):
    """The COUNT of an ALTERNATIVE by COUNTS of NAMES, or None where one lacks."""
    count = 0
    for item in items:
        if is_marked(item):
            continue
        if not is_token(item) and item not in counts:
            return None
        count += 1 if is_token(item) else counts[item]
    return count


def least_counts(choices):
    """The COUNTS of those NAMES that END."""
    counts = {}
    before = None
    while counts != before:
        before = dict(counts)
        for name in choices:
            told = [comes_to(items, counts) for items in choices[name]]
            # A COUNT that is too great makes all greater that it is in, so it may as well lack.
            right = [count for count in told if count is not None and count <= MOST_COUNT]
            if right:
                counts[name] = min(right)
    return counts


class Grammar:
    """What TREES are made by: NAMES, and the ALTERNATIVES of each."""

    def __init__(self, text):
        rows = rows_of(text)
        want_rows(rows)
        self.text = text
        self.choices = {name: tuple(choices) for name, choices in rows}
        self.fewest = least_counts(self.choices)
        for name in self.choices:
            if name not in self.fewest:
                raise NoEnd(name)

    def names(self):
        """All NAMES, in the order of rows."""
        return list(self.choices)

    def start(self):
        """The NAME of the first row."""
        return self.names()[0]

    def alternatives(self, name):
        """The ALTERNATIVES of a NAME, lists of ITEMS."""
        want_name(self, name)
        return [list(items) for items in self.choices[name]]

    def begins(self, name):
        """The TOKENS with which the ALTERNATIVES of a NAME begin."""
        want_name(self, name)
        return [items[0] for items in self.choices[name]]

    def count_of(self, name):
        """How many TOKENS a TREE of a NAME has at least."""
        want_name(self, name)
        return self.fewest[name]

    def counts(self):
        """The PAPER of COUNTS."""
        return tuple([(name, self.fewest[name], self.least_choice(name)) for name in self.choices])

    def least_choice(self, name):
        """By which ALTERNATIVE the LEAST TREE of a NAME is."""
        told = [comes_to(items, self.fewest) for items in self.choices[name]]
        return told.index(self.fewest[name])

    def least_tree(self, name=None):
        """The LEAST TREE of a NAME, of START if none is told."""
        name = self.start() if name is None else name
        want_name(self, name)
        place = self.least_choice(name)
        parts = []
        for item in self.choices[name][place]:
            if is_marked(item):
                parts.append(())
            else:
                parts.append(item if is_token(item) else self.least_tree(item))
        return name, place, tuple(parts)

    def __eq__(self, other):
        return isinstance(other, Grammar) and self.text == other.text

    def __str__(self):
        return str(self.text)

    def __len__(self):
        return len(self.choices)


def want_grammar(thing):
    """Refuses what is no GRAMMAR."""
    if not isinstance(thing, Grammar):
        raise BadValue("grammar")


def want_name(grammar, name):
    """Refuses what is no NAME that a GRAMMAR tells."""
    if not isinstance(name, str) or name not in grammar.choices:
        raise BadValue("name")


def is_count_row(thing, name, many):
    """Whether anything is a row (NAME, COUNT, K) of a NAME with so many ALTERNATIVES."""
    if not is_tuple_of(thing, 3) or not isinstance(thing[0], str):
        return False
    return thing[0] == name and is_number(thing[1], 1, MOST_COUNT) and is_number(thing[2], 0, many - 1)


def check_counts(grammar, paper):
    """Whether a PAPER of COUNTS comes out."""
    want_grammar(grammar)
    if not is_tuple_of(paper, len(grammar)):
        return False
    for row, name in zip(paper, grammar.names()):
        if not is_count_row(row, name, len(grammar.choices[name])):
            return False
    counts = {name: count for name, count, place in paper}
    for name, count, place in paper:
        told = [comes_to(items, counts) for items in grammar.choices[name]]
        if min(told) != count or told.index(count) != place:
            return False
    return True

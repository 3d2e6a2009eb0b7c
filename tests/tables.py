"""TESTS told by tables of VERDICTS, and what the document says of ways through them, in plain words."""

import random
from itertools import combinations, product

from leastfail.trials import Trials

VERDICTS = ("fail", "pass", "unresolved")


def configurations(count):
    """All CONFIGURATIONS of so many pieces, by how many numbers they have, then as tuples."""
    return [parts for size in range(count + 1) for parts in combinations(range(count), size)]


def tables(count):
    """Each table of VERDICTS on so many pieces whose FULL one FAILS."""
    *others, full = configurations(count)
    for verdicts in product(VERDICTS, repeat=len(others)):
        yield {**dict(zip(others, verdicts)), full: "fail"}


def within(parts):
    """All CONFIGURATIONS WITHIN one."""
    return [less for size in range(len(parts) + 1) for less in combinations(parts, size)]


def less(parts, others):
    return tuple(number for number in parts if number not in others)


def more(parts, others):
    return tuple(sorted({*parts, *others}))


class Told:
    """A TEST that keeps what it was CALLED with."""

    def __init__(self, tell):
        self.tell = tell
        self.calls = []
        self.test = lambda parts: self.told(parts)

    def told(self, parts):
        self.calls.append(parts)
        return self.tell(parts)

    def trials(self, **named):
        return Trials(self.test, **named)


class Table(Told):
    """A TEST of a table."""

    def __init__(self, table):
        Told.__init__(self, table.__getitem__)


class Wanting(Told):
    """A MONOTONE TEST: it FAILS of what has one of these CONFIGURATIONS within it, else PASSES."""

    def __init__(self, *wanted):
        Told.__init__(self, lambda parts: "fail" if any(set(one) <= set(parts) for one in wanted) else "pass")


class Drawn(Told):
    """A TEST by chance, the same each time for one seed; it FAILS of what it is made of."""

    def __init__(self, seed, parts, weights=(1, 1, 1)):
        def tell(asked):
            if asked == parts:
                return "fail"
            return random.Random(f"{seed} {asked}").choices(VERDICTS, weights)[0]
        Told.__init__(self, tell)


def drawn_parts(chance, most):
    """A CONFIGURATION by chance, of at most so many numbers."""
    return tuple(sorted(chance.sample(range(120), chance.randint(0, most))))


def drawn_tests(seed, many, most=12):
    """TESTS by chance, each with a CONFIGURATION that it FAILS of; some MONOTONE, some not."""
    chance = random.Random(seed)
    for at in range(many):
        parts = drawn_parts(chance, most)
        if at % 3 == 0:
            wanted = [chance.sample(parts, chance.randint(0, min(4, len(parts)))) for _ in range(chance.randint(1, 4))]
            yield Wanting(*wanted), parts
        else:
            yield Drawn(f"{seed} {at}", parts, chance.choice([(1, 1, 1), (1, 5, 5), (5, 1, 1), (1, 20, 20)])), parts


def parts_of(parts, many):
    """A CONFIGURATION PARTED in so many."""
    count = len(parts)
    ends = [k * count // many for k in range(many + 1)]
    return [parts[ends[k]:ends[k + 1]] for k in range(many)]


def way_of_halving(tell, parts):
    """What is ASKED behind C itself, each as (CONFIGURATION, C, N) as they are ahead of it; and C, N in the end."""
    way = [((), parts, 2)]
    if tell(()) == "fail":
        return way, (), 2
    many = 2
    while len(parts) >= 2:
        found = None
        rows = parts_of(parts, many)
        for row in rows:
            way.append((row, parts, many))
            if tell(row) == "fail":
                found = row, 2
                break
        if found is None and many > 2:
            for row in rows:
                way.append((less(parts, row), parts, many))
                if tell(less(parts, row)) == "fail":
                    found = less(parts, row), many - 1
                    break
        if found is not None:
            parts, many = found
        elif many < len(parts):
            many = min(many * 2, len(parts))
        else:
            break
    return way, parts, many


def way_of_cutting(tell, parts):
    """What is ASKED behind C itself, and what is told."""
    way = []
    going = True
    while going:
        going = False
        for number in sorted(parts, reverse=True):
            way.append(less(parts, (number,)))
            if tell(less(parts, (number,))) == "fail":
                parts = less(parts, (number,))
                going = True
    return way, parts


def way_of_isolating(tell, passing, failing):
    """What is ASKED behind P and F, which rule was done by how N was and became, and P and F in the end."""
    way, done, many = [], [], 2

    def first(asked, verdict):
        for parts in asked:
            way.append(parts)
            if tell(parts) == verdict:
                return parts
        return None
    while len(less(failing, passing)) >= 2:
        rows = parts_of(less(failing, passing), many)
        was = many
        if (found := first([more(passing, row) for row in rows], "fail")) is not None:
            rule, failing, many = 1, found, 2
        elif (found := first([less(failing, row) for row in rows], "pass")) is not None:
            rule, passing, many = 2, found, 2
        elif (found := first([more(passing, row) for row in rows], "pass")) is not None:
            rule, passing, many = 3, found, max(many - 1, 2)
        elif (found := first([less(failing, row) for row in rows], "fail")) is not None:
            rule, failing, many = 4, found, max(many - 1, 2)
        elif many < len(less(failing, passing)):
            rule, many = 5, min(2 * many, len(less(failing, passing)))
        else:
            break
        done.append((rule, was, many))
    return way, done, passing, failing


def each_once(asked):
    """The CONFIGURATIONS that are CALLED where these are ASKED in turn."""
    return list(dict.fromkeys(asked))

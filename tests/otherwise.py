"""What is otherwise in one place than a right thing is."""

from tests.anything import deep_list, deep_tuple, endless_list, shared_tuple

STRANGE = [None, -1, 0, 1, True, False, 119, "fail", "pass", "unresolved", "Fail", "", (), [], {}, deep_tuple(),
           deep_list(), shared_tuple(), endless_list(), 10 ** 30, b"fail", object()]


def others(thing):
    """What is otherwise in one place than a thing of tuples is, and things of other kinds in that place."""
    yield from [strange for strange in STRANGE if strange is not thing]
    if isinstance(thing, tuple):
        yield list(thing)
        for at in range(len(thing)):
            yield thing[:at] + thing[at + 1:]
            yield thing[:at] + (thing[at],) + thing[at:]
            if at:
                yield thing[:at - 1] + (thing[at], thing[at - 1]) + thing[at + 1:]
            for other in others(thing[at]):
                yield thing[:at] + (other,) + thing[at + 1:]
        yield thing + ((),)
        yield thing + thing[-1:]
    elif isinstance(thing, int):
        yield from (thing + 1, thing - 1, str(thing), (thing,))


def is_same(thing, other):
    """Whether both are the same, of the very kinds."""
    if isinstance(thing, tuple) and isinstance(other, tuple):
        return len(thing) == len(other) and all(is_same(one, two) for one, two in zip(thing, other))
    return type(thing) is type(other) and not isinstance(thing, (tuple, list)) and thing == other

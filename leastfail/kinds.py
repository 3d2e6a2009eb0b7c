"""Which kind a thing is, where several modules want to know."""


def is_number(thing, low, high):
    """Whether anything is a whole number from low to high."""
    # Python counts True and False among the ints; here they are no numbers.
    return isinstance(thing, int) and not isinstance(thing, bool) and low <= thing <= high


def is_tuple_of(thing, count):
    """Whether anything is a tuple of so many things."""
    return isinstance(thing, tuple) and len(thing) == count

"""Which kind a thing is, where several modules want to know."""

from leastfail.errors import BadToken

FIGURES = "0123456789"


def is_number(thing, low, high):
    """Whether anything is a whole number from low to high."""
    # Python counts True and False among the ints; here they are no numbers.
    return isinstance(thing, int) and not isinstance(thing, bool) and low <= thing <= high


def is_tuple_of(thing, count):
    """Whether anything is a tuple of so many things."""
    return isinstance(thing, tuple) and len(thing) == count


def is_numeral(word, most):
    """Whether a word is a number of one to so many figures, without a 0 ahead but of 0 itself."""
    if not 1 <= len(word) <= most or not all([sign in FIGURES for sign in word]):
        return False
    return word == "0" or word[0] != "0"


def single_words(text):
    """The words of a text that single blanks stand between; what isn't so, of anything, is refused by place 0."""
    words = text.split(" ") if isinstance(text, str) else [""]
    if "" in words:
        raise BadToken(0)
    return words

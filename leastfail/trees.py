"""TREES of a GRAMMAR, and the texts that they are READ from."""

from leastfail.errors import BadToken, BadValue
from leastfail.forms import bare, is_marked, is_token
from leastfail.grammars import want_grammar, want_name
from leastfail.kinds import is_number, is_tuple_of, single_words

MOST_TOKENS = 100


def most_of(item):
    """How many THINGS an ITEM stands for at most."""
    return MOST_TOKENS if item[-1] == "*" else 1


def things_of(item, part):
    """The THINGS of an ITEM's PART, or None where it can't be a PART of it."""
    if not is_marked(item):
        return [part]
    if not isinstance(part, tuple) or len(part) > most_of(item):
        return None
    return list(part)


def wanted_of(grammar, thing, name):
    """All THINGS of a TREE of a NAME, each with its NAME or TOKEN, or None where it can't be such a TREE."""
    if not is_tuple_of(thing, 3) or not isinstance(thing[0], str) or thing[0] != name:
        return None
    choices = grammar.alternatives(name)
    if not is_number(thing[1], 0, len(choices) - 1):
        return None
    items = choices[thing[1]]
    if not is_tuple_of(thing[2], len(items)):
        return None
    wanted = []
    for item, part in zip(items, thing[2]):
        things = things_of(item, part)
        if things is None:
            return None
        wanted += [(one, bare(item)) for one in things]
    return wanted


def is_right_token(thing, token):
    """Whether anything is a TOKEN told."""
    return isinstance(thing, str) and thing == token


def name_in(grammar, thing):
    """The NAME of which alone anything may be a TREE, or None."""
    if is_tuple_of(thing, 3) and isinstance(thing[0], str) and thing[0] in grammar.names():
        return thing[0]
    return None


def is_tree(grammar, thing, *, name=None):
    """Whether anything is a TREE of a NAME, of any if none is told."""
    want_grammar(grammar)
    if name is not None:
        want_name(grammar, name)
    name = name_in(grammar, thing) if name is None else name
    if name is None:
        return False
    tokens = 0
    ahead = [(thing, name)]
    # Each TREE has a TOKEN of its own, so that of whatever is too deep or too much only the begin is gone through.
    while ahead and tokens <= MOST_TOKENS:
        tree, word = ahead.pop()
        wanted = wanted_of(grammar, tree, word)
        if wanted is None or not all([is_right_token(one, right) for one, right in wanted if is_token(right)]):
            return False
        trees = [(one, right) for one, right in wanted if not is_token(right)]
        tokens += len(wanted) - len(trees)
        ahead += trees
    return tokens <= MOST_TOKENS


def want_tree(grammar, tree):
    """Refuses what is no GRAMMAR, and no TREE of it."""
    if not is_tree(grammar, tree):
        raise BadValue("tree")


def is_branch(part):
    """Whether a PART of a TREE, or a THING of it, is a TREE itself."""
    # Of what is MARKED there stand THINGS in a tuple, and no number is among these.
    return is_tuple_of(part, 3) and isinstance(part[1], int)


def tokens_of(tree):
    """The TOKENS of a TREE, in order."""
    tokens = []
    ahead = [tree]
    while ahead:
        thing = ahead.pop()
        if isinstance(thing, str):
            tokens.append(thing)
        else:
            parts = thing[2] if is_branch(thing) else thing
            ahead.extend(parts[::-1])
    return tokens


def text_of(tree):
    """The TEXT of a TREE."""
    return " ".join(tokens_of(tree))


def fits(grammar, word, tokens, at):
    """Whether a THING of a NAME or a TOKEN can begin at a place of a text."""
    if at >= len(tokens):
        return False
    return tokens[at] == word if is_token(word) else tokens[at] in grammar.begins(word)


def read_name(grammar, name, tokens, at):
    """The TREE of a NAME that begins at a place of a text, and the place behind it."""
    if not fits(grammar, name, tokens, at):
        raise BadToken(at + 1)
    place = grammar.begins(name).index(tokens[at])
    parts = []
    for item in grammar.alternatives(name)[place]:
        word = bare(item)
        things = []
        while len(things) < most_of(item) and fits(grammar, word, tokens, at):
            thing, at = (word, at + 1) if is_token(word) else read_name(grammar, word, tokens, at)
            things.append(thing)
        if is_marked(item):
            parts.append(tuple(things))
        elif things:
            parts.append(things[0])
        else:
            raise BadToken(at + 1)
    return (name, place, tuple(parts)), at


def read_tree(grammar, text, *, name=None):
    """The TREE, of START or of a NAME told, that has this TEXT."""
    want_grammar(grammar)
    if name is not None:
        want_name(grammar, name)
    words = single_words(text)
    tree, behind = read_name(grammar, grammar.start() if name is None else name, words[:MOST_TOKENS], 0)
    if behind < len(words):
        raise BadToken(behind + 1)
    return tree

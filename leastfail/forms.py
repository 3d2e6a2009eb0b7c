"""NAMES, TOKENS and ITEMS, and the rows that they stand in: what of a GRAMMAR can be refused row by row."""

from leastfail.errors import BadRow

CAPITALS = "ABCDEFGHIJKLMNOPQRSTUVWXYZ"
MARKS = "?*"
NOT_IN_TOKENS = " \n=|?*ABCDEFGHIJKLMNOPQRSTUVWXYZ"
LONGEST = 8
MOST_ROWS = 30
MOST_ALTERNATIVES = 8
MOST_ITEMS = 10


def is_name(word):
    """Whether a word is a NAME by its form."""
    return 1 <= len(word) <= LONGEST and all([sign in CAPITALS for sign in word])


def is_token(word):
    """Whether a word is a TOKEN, not MARKED."""
    return 1 <= len(word) <= LONGEST and not any([sign in NOT_IN_TOKENS for sign in word])


def is_marked(item):
    """Whether an ITEM is MARKED."""
    return item[-1] in MARKS


def bare(item):
    """The NAME or the TOKEN of an ITEM."""
    return item[:-1] if is_marked(item) else item


def is_item(word):
    """Whether a word, of at least one sign, is an ITEM by its form."""
    return is_name(bare(word)) or is_token(bare(word))


def wrong_item(words):
    """The first word behind NAME and "=", from 1, that can't stand, or None."""
    many = 1
    items = 0
    for place in range(2, len(words)):
        if words[place] == "|":
            if items == 0 or many == MOST_ALTERNATIVES:
                return place + 1
            many += 1
            items = 0
        elif items == MOST_ITEMS or not is_item(words[place]):
            return place + 1
        else:
            items += 1
    return len(words) + 1 if items == 0 else None


def wrong_by_form(row):
    """The first word of a row, from 1, that can't stand by its form, 0 where blanks can't, or None."""
    words = row.split(" ")
    if "" in words:
        return 0
    if not is_name(words[0]):
        return 1
    if len(words) < 2 or words[1] != "=":
        return 2
    return wrong_item(words)


def alternatives_of(row):
    """The ALTERNATIVES of a row that can stand by its form, tuples of ITEMS."""
    words = row.split(" ")
    choices = [[]]
    for word in words[2:]:
        if word == "|":
            choices.append([])
        else:
            choices[-1].append(word)
    return [tuple(items) for items in choices]


def rows_of(text):
    """The rows of a GRAMMAR's text, each a NAME and its ALTERNATIVES; refused by their form."""
    if not isinstance(text, str):
        raise BadRow(0, 0)
    rows = []
    for number, row in enumerate(text.split("\n"), start=1):
        wrong = wrong_by_form(row) if number <= MOST_ROWS else 0
        if wrong is not None:
            raise BadRow(number, wrong)
        rows.append((row.split(" ")[0], alternatives_of(row)))
    return rows


def can_stand(items, place, begins):
    """Whether an ITEM can stand at its place in an ALTERNATIVE, where NAMES begin with these ITEMS."""
    word = bare(items[place])
    if is_name(word) and word not in begins:
        return False
    if place == 0:
        return is_token(items[0])
    if not is_marked(items[place]):
        return True
    behind = items[place + 1:place + 2]
    return behind != () and is_token(behind[0]) and behind[0] != word and behind[0] not in begins.get(word, [])


def wrong_by_rest(choices, begins):
    """The first ITEM of a row, counted as a word from 1, that can't stand by more than its form, or None."""
    word = 3
    begun = set()
    for items in choices:
        for place in range(len(items)):
            if not can_stand(items, place, begins) or (place == 0 and items[0] in begun):
                return word + place
        begun.add(items[0])
        word += len(items) + 1
    return None


def want_rows(rows):
    """Refuses the first NAME or ITEM that can't stand by more than its form."""
    begins = {}
    for name, choices in rows:
        begins[name] = begins.get(name, []) + [items[0] for items in choices]
    told = set()
    for number, (name, choices) in enumerate(rows, start=1):
        wrong = 1 if name in told else wrong_by_rest(choices, begins)
        if wrong is not None:
            raise BadRow(number, wrong)
        told.add(name)

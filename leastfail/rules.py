"""RULES of which words stand in the PIECES of a CASE, and TELLERS, which are TESTS made of them."""

from leastfail.cases import want_case, want_configuration
from leastfail.errors import BadToken
from leastfail.kinds import is_numeral, single_words
from leastfail.links import words_in

# What stands behind each word that a RULE begins with.
FORMS = {
    "has": ("word",),
    "lacks": ("word",),
    "ahead": ("word", "word"),
    "many": ("word", "number"),
    "both": ("rule", "rule"),
    "either": ("rule", "rule"),
    "not": ("rule",),
}
MOST_WORDS = 60
LONGEST_WORD = 20
MOST_FIGURES = 2
BETWEEN = ";"


def can_stand(word, wanted):
    """Whether a word can stand where a RULE begins, a number or a WORD is wanted."""
    if wanted == "rule":
        return word in FORMS
    if wanted == "number":
        return is_numeral(word, MOST_FIGURES)
    return word != BETWEEN and len(word) <= LONGEST_WORD and "\n" not in word


def read_rule(words, begin):
    """The steps of the RULE that begins at a place, one for each RULE in it, and the place behind it."""
    steps = []
    wanted = ["rule"]
    at = begin
    while wanted:
        if at == len(words) or at == begin + MOST_WORDS or not can_stand(words[at], wanted[-1]):
            raise BadToken(at + 1)
        if wanted.pop() == "rule":
            steps.append([words[at]])
            wanted += FORMS[words[at]][::-1]
        else:
            steps[-1].append(words[at])
        at += 1
    return steps, at


def read_rules(text, most):
    """The steps of one RULE or of at most so many, " ; " between."""
    words = single_words(text)
    steps, at = read_rule(words, 0)
    rules = [steps]
    while at < len(words):
        if len(rules) == most or words[at] != BETWEEN:
            raise BadToken(at + 1)
        steps, at = read_rule(words, at + 1)
        rules.append(steps)
    return rules


def is_held(step, rows):
    """Whether a RULE without others in it holds of PIECES, each told by the row of its WORDS."""
    having = [at for at, row in enumerate(rows) if step[1] in row]
    if step[0] == "has":
        return having != []
    if step[0] == "lacks":
        return having == []
    if step[0] == "many":
        return len(having) >= int(step[2])
    behind = [at for at, row in enumerate(rows) if step[2] in row]
    return having != [] and behind != [] and having[0] < behind[-1]


def are_held(steps, rows):
    """Whether a RULE holds of PIECES, each told by the row of its WORDS."""
    held = []
    # From the last on, so that what a RULE is made of is known when it comes.
    for step in reversed(steps):
        if step[0] == "not":
            held.append(not held.pop())
        elif step[0] in ("both", "either"):
            pair = [held.pop(), held.pop()]
            held.append(all(pair) if step[0] == "both" else any(pair))
        else:
            held.append(is_held(step, rows))
    return held[0]


def verdict_by(rules, rows):
    """What a TELLER of one RULE or two tells of PIECES, each told by the row of its WORDS."""
    if are_held(rules[0], rows):
        return "fail"
    return "unresolved" if len(rules) == 2 and are_held(rules[1], rows) else "pass"


def rows_of(case):
    """The WORDS of each PIECE of a CASE."""
    return [words_in(piece) for piece in case.pieces()]


def holds(case, rule, parts=None):
    """Whether a RULE holds of a CONFIGURATION of a CASE, of FULL if none is told."""
    want_case(case)
    steps = read_rules(rule, 1)[0]
    return are_held(steps, rows_of(case if parts is None else case.kept(parts)))


def teller(case, text):
    """The TEST of CONFIGURATIONS of a CASE that a TELLER is."""
    want_case(case)
    rules = read_rules(text, 2)
    rows = rows_of(case)

    def test(parts):
        want_configuration(parts, "parts", len(rows))
        return verdict_by(rules, [rows[number] for number in parts])
    return test


def text_teller(text):
    """The TEST of texts that a TELLER is, their words being the PIECES."""
    rules = read_rules(text, 2)
    return lambda told: verdict_by(rules, [[word] for word in words_in(told)])

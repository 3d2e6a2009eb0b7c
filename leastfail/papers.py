"""PAPERS: by what was told before, others can see that a CONFIGURATION is LEAST, or a pair ISOLATED."""

from leastfail.cases import is_configuration, is_within, together, want_configuration, without
from leastfail.kinds import is_number, is_tuple_of
from leastfail.trials import is_row, is_verdict, known_by, want_trials


def is_near(verdicts):
    """Whether by these VERDICTS no rule brings a pair nearer: there is one number, or nothing is told of any."""
    return len(verdicts) == 1 or all([row[1:] == ("unresolved", "unresolved") for row in verdicts])


def ones_less(parts):
    """What is left of a CONFIGURATION without each of its numbers, by number."""
    return {number: without(parts, (number,)) for number in parts}


def paper_by(trials, parts, left):
    """The PAPER of a CONFIGURATION by what is left of it, by number, or None where it or one of these isn't right."""
    if not trials.fails(parts):
        return None
    verdicts = tuple([(number, trials.ask(left[number])) for number in parts])
    return (parts, verdicts) if all([verdict != "fail" for number, verdict in verdicts]) else None


def least_paper(trials, parts):
    """The PAPER of a LEAST CONFIGURATION, or None."""
    want_trials(trials)
    want_configuration(parts, "parts")
    return paper_by(trials, parts, ones_less(parts))


def isolated_paper(trials, passing, failing):
    """The PAPER of an ISOLATED pair, or None."""
    want_trials(trials)
    want_configuration(passing, "passing")
    want_configuration(failing, "failing")
    if not is_within(passing, failing) or not trials.fails(failing) or trials.ask(passing) != "pass":
        return None
    verdicts = tuple([(number, trials.ask(together(passing, (number,))), trials.ask(without(failing, (number,))))
                      for number in without(failing, passing)])
    return (passing, failing, verdicts) if is_near(verdicts) else None


def is_told(thing, row):
    """Whether anything is a row (NUMBER, VERDICT ..), of the very kinds; no VERDICT is None, as where one lacks."""
    if not is_tuple_of(thing, len(row)) or not is_number(thing[0], row[0], row[0]):
        return False
    return all([is_verdict(thing[at]) and thing[at] == row[at] for at in range(1, len(row))])


def are_told(thing, rows):
    """Whether anything is a tuple of just these rows."""
    return is_tuple_of(thing, len(rows)) and all([is_told(told, row) for told, row in zip(thing, rows)])


def comes_out(known, paper, left):
    """Whether the PAPER of a CONFIGURATION comes out by what is known of what is left of it, by number."""
    parts, verdicts = paper
    told = [(number, known.get(left[number])) for number in parts]
    if known.get(parts) != "fail" or not are_told(verdicts, told):
        return False
    return all([verdict != "fail" for number, verdict in told])


def check_least(rows, paper):
    """Whether the PAPER of a LEAST CONFIGURATION comes out by ROWS."""
    known = known_by(rows, is_row)
    if not is_tuple_of(paper, 2) or not is_configuration(paper[0]):
        return False
    return comes_out(known, paper, ones_less(paper[0]))


def check_isolated(rows, paper):
    """Whether the PAPER of an ISOLATED pair comes out by ROWS."""
    known = known_by(rows, is_row)
    if not is_tuple_of(paper, 3) or not is_configuration(paper[0]) or not is_configuration(paper[1]):
        return False
    passing, failing, verdicts = paper
    if known.get(passing) != "pass" or known.get(failing) != "fail" or not is_within(passing, failing):
        return False
    told = [(number, known.get(together(passing, (number,))), known.get(without(failing, (number,))))
            for number in without(failing, passing)]
    return are_told(verdicts, told) and is_near(told)

"""CLOSED DOWN: a failing CONFIGURATION made less, all that is tried having what it hangs on."""

from leastfail.cases import is_configuration, without
from leastfail.errors import BadValue
from leastfail.kinds import is_tuple_of
from leastfail.links import falls_of, is_closed, want_links
from leastfail.papers import comes_out, paper_by
from leastfail.trials import is_row, known_by, want_trials, want_verdict


def want_closed(trials, links, parts):
    """Refuses what are no TRIALS, no LINKS, and no CLOSED CONFIGURATION."""
    want_trials(trials)
    if not is_closed(links, parts):
        raise BadValue("parts")


def closed_down(trials, links, parts):
    """The LEAST CLOSED CONFIGURATION that is come to by leaving out one FALL after another."""
    want_closed(trials, links, parts)
    want_verdict(trials, parts, "fail")
    falls = falls_of(links, parts)
    before = None
    while parts != before:
        before = parts
        for number in reversed(before):
            if number in parts:
                less = without(parts, falls[number])
                parts = less if trials.fails(less) else parts
    return parts


def falls_less(links, parts):
    """What is left of a CONFIGURATION without the FALL of each of its numbers, by number."""
    falls = falls_of(links, parts)
    return {number: without(parts, falls[number]) for number in parts}


def closed_paper(trials, links, parts):
    """The PAPER of a LEAST CLOSED CONFIGURATION, or None."""
    want_closed(trials, links, parts)
    return paper_by(trials, parts, falls_less(links, parts))


def check_closed(links, rows, paper):
    """Whether the PAPER of a LEAST CLOSED CONFIGURATION comes out by ROWS."""
    want_links(links)
    known = known_by(rows, is_row)
    if not is_tuple_of(paper, 2) or not is_configuration(paper[0]) or not is_closed(links, paper[0]):
        return False
    return comes_out(known, paper, falls_less(links, paper[0]))

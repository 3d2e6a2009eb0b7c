"""ISOLATED: a passing and a failing CONFIGURATION brought as near each other as can be."""

from leastfail.cases import is_within, parted, together, want_configuration, without
from leastfail.errors import BadValue
from leastfail.trials import want_trials, want_verdict


def first_told(trials, asked, verdict):
    """The first of several CONFIGURATIONS that has a VERDICT, or None; those behind it aren't ASKED."""
    for parts in asked:
        if trials.ask(parts) == verdict:
            return parts
    return None


def nearer(trials, passing, failing, many):
    """P, F and N behind the first rule that fits by a part, or None where none does."""
    parts = parted(without(failing, passing), many)
    more = [together(passing, part) for part in parts]
    less = [without(failing, part) for part in parts]
    fewer = max(many - 1, 2)
    for asked, verdict, then in ((more, "fail", 2), (less, "pass", 2), (more, "pass", fewer), (less, "fail", fewer)):
        found = first_told(trials, asked, verdict)
        if found is not None:
            return (passing, found, then) if verdict == "fail" else (found, failing, then)
    return None


def isolated(trials, failing, *, passing=()):
    """The pair of a passing CONFIGURATION and a failing one that the rules come to."""
    want_trials(trials)
    want_configuration(failing, "failing")
    want_configuration(passing, "passing")
    if not is_within(passing, failing):
        raise BadValue("passing")
    want_verdict(trials, passing, "pass")
    want_verdict(trials, failing, "fail")
    many = 2
    while len(failing) - len(passing) >= 2:
        found = nearer(trials, passing, failing, many)
        count = len(failing) - len(passing)
        if found is not None:
            passing, failing, many = found
        elif many < count:
            many = min(2 * many, count)
        else:
            break
    return passing, failing

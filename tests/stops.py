"""What asks TRIALS, stopped at each of its calls in each way, and gone on with then [4]."""

from leastfail.errors import BadVerdict, Gone, Nested, Spent
from tests.tables import Told

ANSWERS = (Gone("away"), KeyError("k"), Nested(), ZeroDivisionError(), None, "Fail", ["fail"])


def answering(tell, stopped, answer):
    """A TEST that, CALLED with one thing for the first time, raises or tells an answer."""
    left = [answer]

    def test(asked):
        if asked == stopped and left:
            left.clear()
            if isinstance(answer, Exception):
                raise answer
            return answer
        return tell(asked)
    return test


def stopped_everywhere(case, make, tell, run):
    """By TRIALS that make makes of a TEST, run tells the same, by the same calls in order, whatever stops it once."""
    told = Told(tell)
    right = run(make(told.test))
    calls = list(told.calls)
    for at, stopped in enumerate(calls):
        for answer in ANSWERS:
            seen = Told(answering(tell, stopped, answer))
            trials = make(seen.test)
            with case.assertRaises((BadVerdict, Gone, KeyError, Nested, ZeroDivisionError)) as caught:
                run(trials)
            if isinstance(answer, Exception):
                case.assertIs(caught.exception, answer)
            else:
                case.assertIs(caught.exception.told, answer)
            case.assertEqual([asked for asked, _ in trials.rows()], calls[:at])
            case.assertIs(trials.is_calling(), False)
            case.assertEqual(run(trials), right)
            case.assertEqual(seen.calls, calls[:at + 1] + calls[at:])
            case.assertEqual([asked for asked, _ in trials.rows()], calls)
        seen = Told(tell)
        trials = make(seen.test, most=at)
        with case.assertRaises(Spent) as caught:
            run(trials)
        case.assertEqual(caught.exception.most, at)
        case.assertEqual(seen.calls, calls[:at])
        trials.allow(len(calls) - at)
        case.assertEqual(run(trials), right)
        case.assertEqual(seen.calls, calls)


def nested_everywhere(case, make, tell, runs):
    """Amid a call of their own, TRIALS that know all refuse each run with Nested."""
    known = make(tell)
    for run in runs:
        run(known)

    def test(asked):
        for run in runs:
            with case.assertRaises(Nested):
                run(trials)
        seen.append(asked)
        return "pass"
    seen = []
    trials = make(test, known=known.known_rows())
    return trials, seen

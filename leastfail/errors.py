"""What is refused, one error for each kind of refusal."""


class BadValue(ValueError):
    """Of whatever isn't of the kind that is wanted."""

    def __init__(self, what):
        ValueError.__init__(self, what)
        self.what = what


class BadVerdict(TypeError):
    """Of a TEST that told what is no VERDICT."""

    def __init__(self, told):
        # What was told may be too deep or too much to be shown, so the message leaves it out.
        TypeError.__init__(self, "a test told what is no verdict")
        self.told = told


class Spent(OverflowError):
    """Of TRIALS that have CALLED as often as they may."""

    def __init__(self, most):
        OverflowError.__init__(self, f"no more than {most} may be called")
        self.most = most


class Nested(RuntimeError):
    """Of what is ASKED while it is being answered already."""

    def __init__(self):
        RuntimeError.__init__(self, "asked amid a call")


class Gone(Exception):
    """Raised by TESTS that can't tell a VERDICT."""

    def __init__(self, why=""):
        # Whatever it is, it isn't shown unless it is a text: it may be too deep for that.
        Exception.__init__(self, why if isinstance(why, str) else "gone")
        self.why = why


class NotSo(LookupError):
    """Of a CONFIGURATION that should FAIL, or PASS, and doesn't."""

    def __init__(self, parts, verdict):
        LookupError.__init__(self, f"the verdict is {verdict}")
        self.parts = parts
        self.verdict = verdict


class BadRow(BadValue):
    """Of the row, and the word in it, that can't stand in a GRAMMAR."""

    def __init__(self, row, word):
        BadValue.__init__(self, "row")
        self.row = row
        self.word = word


class BadToken(BadValue):
    """Of the place of a TOKEN, or a word, that can't stand."""

    def __init__(self, place):
        BadValue.__init__(self, "token")
        self.place = place


class NoEnd(KeyError):
    """Of a NAME that has no TREE."""

    def __init__(self, name):
        KeyError.__init__(self, name)
        self.name = name


class Nothing(IndexError):
    """Of a deed that there is nothing for."""

    def __init__(self, about):
        IndexError.__init__(self, about)
        self.about = about

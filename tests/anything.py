"""Things of any kind, for what is refused of anything."""

from leastfail.cases import Case


class Hostile:
    """Raises at all that may be asked of a thing of an unknown kind."""

    def refuse(self, *told):
        raise ArithmeticError("asked")

    __eq__ = __lt__ = __le__ = __gt__ = __ge__ = refuse
    __hash__ = __len__ = __bool__ = __iter__ = __contains__ = refuse
    __getitem__ = __int__ = __index__ = __str__ = __repr__ = refuse


class Alike:
    """Says that it is the same as whatever it is compared with."""

    def __eq__(self, other):
        return True

    def __hash__(self):
        return 0


def deep_tuple(depth=5000):
    thing = ()
    for _ in range(depth):
        thing = (thing,)
    return thing


def deep_list(depth=5000):
    thing = []
    for _ in range(depth):
        thing = [thing]
    return thing


def shared_tuple(depth=200):
    """One that would have 2 ** depth things in it, were none of them the same."""
    thing = (0,)
    for _ in range(depth):
        thing = (thing, thing)
    return thing


def shared_list(depth=200):
    thing = [0]
    for _ in range(depth):
        thing = [thing, thing]
    return thing


def endless_list():
    thing = []
    thing.append(thing)
    return thing


def things():
    """Things of many kinds: no number, no text, no CONFIGURATION, no PIECES, no ROW, no list of ROWS."""
    return [
        None, True, False, {"fail": 1}, {0: "fail"}, {1, 2}, frozenset([0]),
        b"fail", object(), int, len, lambda parts: "fail", range(3), iter([0, 1]), Case(["x"]),
        Hostile(), Alike(), ValueError("fail"),
        [None], [True], [Hostile()], [deep_tuple()], [[]], [()], [("fail", ())], [b"x"],
        (None,), (True,), (False,), (0, True), (b"x",), (Hostile(),), (Alike(),), ((),), ([],), ((0,),),
        (0, (1,)), (-1,), (120,), (0, 0), (1, 0), (10 ** 30,), tuple(range(121)), (0,) * 100000,
        deep_tuple(), deep_list(), shared_tuple(), shared_list(), endless_list(), (deep_tuple(), "fail"),
        [0] * 100000, [None] * 100000,
    ]


NO_NUMBERS = things() + ["", "1", "x" * 5000, (), [], (0,), [0], ("0",)]
NO_TEXTS = things() + [0, 1, -1, 10 ** 30, (), [], ("x",), ["x"]]
NO_CONFIGURATIONS = things() + ["", "01", "x" * 5000, 0, 1, -1, 10 ** 30, [], [0], [0, 1], ["x"], ("0",)]
NO_PIECES = things() + ["", "abc", 0, 3, (0,), [0], ["a", None], ["a", 0, "b"], ("a", ["b"])]
NO_VERDICTS = NO_TEXTS + ["", "Fail", "FAIL", "fail ", " fail", "fai", "failpass", "passed", "x" * 5000]
NO_ROWS = [
    [()], [((),)], [((0,), "fail", "pass")], [[(0,), "fail"]], [((0,), "Fail")], [([0], "fail")], [((True,), "fail")],
    [((0,), "fail"), ((0,), "fail")], [((0,), "fail"), ((1,), "pass"), ((0,), "pass")], (((0,), "fail"), None),
    [((1, 0), "fail")], [((0, 120), "fail")], {((0,), "fail")}, {(0,): "fail"}, iter([((0,), "fail")]),
    "", "x", 0, 7, ((0,), "fail"), [((0,), None)], [(deep_tuple(), "fail")], [((0,), deep_tuple())],
]
NO_TEXT_ROWS = [
    [()], [("",)], [("a", "fail", "pass")], [["a", "fail"]], [("a", "Fail")], [(("a",), "fail")], [(True, "fail")],
    [("a", "fail"), ("a", "fail")], [("a", "fail"), ("b", "pass"), ("a", "pass")], (("a", "fail"), None),
    [(b"a", "fail")], [(0, "fail")], [((), "fail")], {("a", "fail")}, {"a": "fail"}, iter([("a", "fail")]),
    "", "ab", 0, 7, ("a", "fail"), [("a", None)], [(deep_tuple(), "fail")], [("a", deep_tuple())], [("a", deep_list())],
]

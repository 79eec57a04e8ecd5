"""Values that are none of the kinds that parameters ask for."""

from leadrules.books import Book
from leadrules.tables import Table

X = ("day", "x")
TABLE = Table([0, 2])

NOT_DAYS = [True, False, None, "3", "", 3.0, [3], (3,), {}, {3: 3}, TABLE]
NOT_COUNTS = NOT_DAYS + [-1, -10 ** 12]
NOT_LENGTHS = NOT_COUNTS + [0]
NOT_RULES = ["", "ab", "i", "A", "x", "1", " ", "a ", None, True, False, 0, 1, ["a"], ("a",), {"a": "a"}, b"a"]
NOT_NAMES = ["", "pq", "o", "P", "a", "1", " ", "{", None, True, False, 0, 1, ["x"], ("x",), {"x": "x"}, b"x"]
NOT_FORMULAS = [
    None, True, 3, "x", "day", [], (), {}, ["day", "x"], ("day",), ("day", "a"), ("day", "x", "x"), ("day", ["x"]),
    ("day", 1), ("num",), ("num", True), ("num", False), ("num", "1"), ("num", None), ("num", 1, 1), ("num", 1.0),
    ("on", "a"), ("on", "x", X), ("on", X, "a"), ("on", "a", X, X), ("on", "a", ["day", "x"]), ("on", "a", 3),
    ("on", "a", "x"), ("by", "i", X), ("by", "a", ("num", True)), ("til", True, X), ("til", "a", ()),
    ("add", True, X), ("add", "1", X), ("add", 1), ("add", 1, X, X), ("add", None, X), ("add", 1, ("num", False)),
    ("late", X), ("late", X, X, X), ("late", [X, X]), ("late", X, 3), ("soon", X, ["num", 1]), ("soon", X, ("soon", X)),
    ("le", X, X), ("late", X, ("le", X, X)), ("DAY", "x"), ("", "x"), (1, "x"), (True, X), (("day",), "x"), (X,),
    [("day", "x")], (["day"], "x"), ("and", X, X),
]
LE = ("le", X, ("num", 3))
NOT_SAYINGS = [
    None, True, 3, "le", [], (), {}, X, ("num", 1), ("le",), ("le", X), ("le", X, X, X), ["le", X, X], ("le", X, 3),
    ("le", X, ["num", 1]), ("le", X, LE), ("le", LE, X), ("le", X, ("num", True)), ("and", LE), ("and", LE, LE, LE),
    ("and", LE, X), ("and", X, LE), ("or", LE), ("or", LE, ["le", X, X]), ("not",), ("not", X), ("not", LE, LE),
    ("not", ["le", X, X]), ("not", True), ("not", ("not", X)), ("nor", LE, LE), ("LE", X, X), (LE,), (LE, LE),
    (1, LE), (True, X, X), (["not"], LE), ("on", "a", X), ("le", ("add", False, X), X),
]
NOT_DAY_DICTS = [
    None, True, 3, "x", [], (), [("x", 1)], {"a": 1}, {"x": True}, {"x": False}, {"x": "1"}, {"x": None}, {"x": [1]},
    {1: 1}, {True: 1}, {None: 1}, {("x",): 1}, {"": 1}, {"xy": 1}, {"x": 1, "a": 1}, {"x": 1, "y": True}, {"x": 1.0},
]
NOT_WORLDS = [
    None, True, 3, "a", [], (), [("a", TABLE)], {"x": TABLE}, {"a": [0, 2]}, {"a": None}, {1: TABLE}, {True: TABLE},
    {"a": TABLE, "x": TABLE}, {"a": TABLE, "b": [0]}, {("a",): TABLE}, {"": TABLE}, {"ab": TABLE}, {"a": {}},
]
NOT_TABLES = [
    None, True, 3, "3", {}, {0: 1}, [], (), [True], [0, False], [0, "1"], [0, None], [[0]], [(0,)], [1, 0], [0, 3],
    [0, 2, 1], [0, 0, 4], list(range(601)), [0] * 601, [0] * 599 + [601], [1.0], TABLE, [TABLE], {"a": TABLE},
]
NOT_TABLE_LISTS = [None, True, 3, "", TABLE, {}, [[0, 2]], [TABLE, None], [TABLE, [0]], [None], {"a": TABLE}, (3,)]
NOT_KNOWN_ROWS = [
    None, True, 3, "", [], (), {}, [(0,)], [(0, 1, 2)], [[0, 1]], [(0, True)], [(False, 0)], [(0, "1")], [(0, None)],
    [(0, 1), None], [(0, 1), [4, 5]], (0, 1), [0, 1], [(0, 1)] * 61, [("a", 0, 1)], {(0, 1): True},
]
NOT_WOVEN_ROWS = [
    None, True, 3, "", [], (), {}, [[]], [()], [X], [[X], []], [[X], None], [[X, 3]], [[X, ["day", "x"]]], X,
    [[("late", X, X)]], [[("soon", X, X)]], [[("on", "a", ("late", X, X))]], [[("num", True)]], [[LE]], [[X], [LE]],
    {0: [X]}, [{0: X}],
]
NOT_RULE_DICTS = [
    None, True, 3, "a", [], (), [("a", "b")], {"x": "a"}, {"a": "x"}, {"a": None}, {"a": True}, {True: "a"}, {1: "a"},
    {"a": "b", "b": "y"}, {"a": ["b"]}, {"": "a"}, {"a": ""}, {"a": "bc"}, {("a",): "b"},
]
NOT_NAME_DICTS = [
    None, True, 3, "x", [], (), [("x", "y")], {"a": "x"}, {"x": "a"}, {"x": None}, {"x": True}, {True: "x"}, {1: "x"},
    {"x": "y", "y": "b"}, {"x": ["y"]}, {"": "x"}, {"x": ""}, {"x": "yz"}, {("x",): "y"},
]
NOT_ROWS = [
    None, True, 3, "a", [], (), {}, ("a", 0), ("a", 0, 1, 2), ["a", 0, 1], ("x", 0, 1), ("a", True, 1), ("a", 0, False),
    ("a", "0", 1), ("a", 0, None), (0, 1), (True, 0, 1), ("", 0, 1), (0, "a", 1), ("a", 0.0, 1), ("a", [0], 1),
]
NOT_PROMISES = [
    None, True, 3, "quick", [], (), {}, ("quick", "a"), ("quick", "a", "a"), ("quick", "a", "b", "c"),
    ["quick", "a", "b"], ("quick", "a", "x"), ("quick", "x", "a"), ("quick", "a", None), ("quick", True, "a"),
    ("lead", "a"), ("lead", "a", 1), ("lead", "a", None, None), ("lead", "a", True, None), ("lead", "a", None, False),
    ("lead", "a", 1, True), ("lead", "a", "1", 2), ("lead", "a", 1, "2"), ("lead", "x", 1, 2), ("lead", "a", 1, 2, 3),
    ["lead", "a", 1, 2], ("LEAD", "a", 1, 2), ("lead", ["a"], 1, 2), (1, "a", 1, 2), ("lead", "a", 1.0, 2),
    ("lead", "a", "b"), ("quick", "a", 1, 2), (["quick"], "a", "b"), ("slow", "a", "b"),
]
# None of these has the form of a picture, whatever the book.
NOT_PICTURES = [
    None, True, 3, "", [], (), {}, ({},), ({}, {}, {}), [{}, {}], ({}, []), ([], {}), ({}, None), (None, {}),
    ({"a": 1}, {}), ({"x": True}, {}), ({"x": "1"}, {}), ({True: 1}, {}), ({}, {"x": []}), ({}, {True: []}),
    ({}, {1: []}), ({}, {"a": None}), ({}, {"a": {}}), ({}, {"a": (0, 1)}), ({}, {"a": [[0, 1]]}),
    ({}, {"a": [(0,)]}), ({}, {"a": [(0, 1, 2)]}), ({}, {"a": [(0, True)]}), ({}, {"a": [(False, 1)]}),
    ({}, {"a": [(0, "1")]}), ({}, {"a": [(0, None)]}), ({}, {"a": [(1, 1), (0, 0)]}), ({}, {"a": [(0, 0), (0, 1)]}),
    ({}, {"a": [(0, 0), (0, 0)]}), ({}, {"a": [(0, 0)], "x": []}), ({}, {"a": [(0, 0)], "b": [3]}),
]
NOT_BOUNDS = [
    None, True, 3, "", {}, (0, 1, 2), [0, 1, 2], [[0, 1, 2]], [(0, 1)], [(0, 1, 2, 3)], [()], [(True, 1, 2)],
    [(0, False, 2)], [(0, 1, True)], [(0, 1, None)], [(0, 1, "2")], [(-1, 1, 2)], [(0, -1, 2)], [(0, 1, 2.0)],
    [("a", 1, 2)], [(0, 1, 2), None], [(0, 1, 2), [0, 1, 2]], [(0, 1, 2), (0, 1, False)], {(0, 1, 2): True},
]
NOT_PLACES = [
    None, True, 3, "a", "", [], (), {}, ("a", 1, 0, 2), ("a", 1, 0, 2, 0, 0), ["a", 1, 0, 2, 0], ("x", 1, 0, 2, 0),
    ("ab", 1, 0, 2, 0), (1, 1, 0, 2, 0), (None, 1, 0, 2, 0), ("a", -1, 0, 2, 0), ("a", 1, 0, -2, 0),
    ("a", True, 0, 2, 0), ("a", 1, False, 2, 0), ("a", 1, 0, True, 0), ("a", 1, 0, 2, False), ("a", "1", 0, 2, 0),
    ("a", 1, None, 2, 0), ("a", 1, 0, [2], 0), ("a", 1, 0, 2, 0.0), (["a"], 1, 0, 2, 0),
]
RING = ("ring", [(0, 0, -1)])
# None of these is formed like a tree.
NOT_TREES = [
    None, True, 3, "ring", "", [], (), {}, ("ring",), ["ring", [(0, 0, -1)]], ("ring", None),
    ("ring", (0, 0, -1)), ("ring", [[0, 0, -1]]), ("ring", [(0, 0)]), ("ring", [(0, 0, -1, 1)]),
    ("ring", [(True, 0, -1)]), ("ring", [(0, False, -1)]), ("ring", [(0, 0, True)]), ("ring", [(-1, 0, 0)]),
    ("ring", [(0, 0, "1")]), ("ring", [(0, 0, -1)], []), ("ring", [(0, 0, -1)], RING), ("ring", {}), ("or",),
    ("or", RING), ("or", RING, RING, RING), ("or", 1, RING, RING), ("or", RING, ["ring", []]), ("or", RING, None),
    ("late", RING, RING), ("late", 3, RING), ("late", 3, RING, RING, RING), ("late", True, RING, RING),
    ("late", -1, RING, RING), ("late", "3", RING, RING), ("late", None, RING, RING), ("soon", RING, RING),
    ("soon", False, RING, RING), ("soon", 3, RING, ("ring", [None])), ("pair", 0, 1, RING, RING),
    ("pair", 0, RING, RING, RING), ("pair", False, 1, RING, RING, RING), ("pair", 0, True, RING, RING, RING),
    ("pair", 0, -1, RING, RING, RING), ("pair", 0, 1, RING, RING, RING, RING), ("cross", 0, 1, RING),
    ("cross", 0, 1, RING, RING, RING), ("cross", True, 2, RING, RING), ("cross", 0, 1.0, RING, RING),
    ("cross", 0, 1, RING, ()), ("RING", [(0, 0, -1)]), ("legs", [[(0, 0, -1)]]), ("rest", 1, [RING]), (1, RING, RING),
    (True, RING, RING), (["or"], RING, RING), (RING, RING), ("or", RING, ("late", 3, RING, ("late", True, RING, RING))),
]
NOT_FORMULA_LISTS = [None, True, 3, "", X, {}, {0: X}, [None], [X, None], [X, ["day", "x"]], [("num", True)], [[X]],
                     [X, ("le", X, X)], (X, 3), [("add", False, X)], "x", [X, X, X, X, None]]
NOT_PAIRS = [None, True, 3, "", [], (), {}, [0, 1], (0,), (0, 1, 2), (True, 1), (0, False), (-1, 0), (0, -1), (0, None),
             ("0", 1), (0, 1.0), ((0, 1),), ([0], 1)]
NOT_ROW_LISTS = [None, True, 3, "", {}, ("a", 0, 1), ["a", 0, 1], [None], [("a", 0)], [("a", 0, True)],
                 [("a", False, 1)], [["a", 0, 1]], [("x", 0, 1)], [("a", 0, 1), None], (("a", 0, 1), ("a", 0, None)),
                 {("a", 0, 1): True}, [("a", 0, 1, 2)]]
STAND = ({"x": 0}, {"a": [(0, 0), (3, 4)]})
# None of these is two stands.
NOT_STANDS = [
    None, True, 3, "", [], (), {}, (STAND,), (STAND, STAND, STAND), [STAND, STAND], (STAND, None), (None, STAND),
    (STAND, ({}, {"a": [(0, 0), (3, 4)]})), (STAND, ({"y": 0}, {"a": [(0, 0), (3, 4)]})),
    (STAND, ({"x": 0, "y": 1}, {"a": [(0, 0), (3, 4)]})), (STAND, ({"x": 0}, {})),
    (STAND, ({"x": 0}, {"b": [(0, 0), (3, 4)]})),
    (STAND, ({"x": 0}, {"a": [(0, 0), (3, 4)], "b": []})), (STAND, ({"x": 0}, {"a": [(0, 0)]})),
    (STAND, ({"x": 0}, {"a": [(0, 0), (3, 4), (5, 6)]})), (STAND, ({"x": 0}, {"a": [(0, 0), (2, 4)]})),
    (STAND, ({"x": 0}, {"a": [(1, 0), (3, 4)]})), (STAND, ({"x": True}, {"a": [(0, 0), (3, 4)]})),
    (STAND, ({"x": 0}, {"a": [(0, 0), (3, True)]})), (({"x": False}, {}), ({"x": 0}, {})),
    (STAND, [{"x": 0}, {"a": [(0, 0), (3, 4)]}]), (STAND, ({"x": 0}, {"a": [[0, 0], [3, 4]]})),
]
NOT_LEG_LISTS = NOT_BOUNDS + [[], (), [(0, 1, 2), (2, 0, 1)], [(0, 1, 2), (0, 1, 2)], [(1, 0, -1), (0, 1, 0), (0, 1, 0)]]
NOT_REST_LENGTHS = NOT_LENGTHS + [15, 600, 10 ** 12]
# For rests by a length of 7.
NOT_RESTS = [
    None, True, 3, "", [], (), [(0, 0)], {}, {1: 2}, {0: 1}, {0: True}, {0: False}, {False: 0}, {0: None}, {0: "0"},
    {0: 0.0}, {0: [0]}, {0: 0, 1: 7}, {0: 0, 1: -1}, {0: 0, 1: True}, {0: 0, 1: None}, {0: 0, True: 1}, {0: 0, -1: 1},
    {0: 0, "1": 1}, {0: 0, (1,): 1}, {0: 0, None: 1}, {0: 3, 1: 1}, {0: 0, 1: 600},
]
NOT_PARTS = ["", "A", "a1", "1", "a b", " a", "a-b", "a_b", "abcdefghijklm", "frAme", None, True, False, 0, 3, ["a"],
             ("a",), {"a": 1}, b"a"]
STEP = ("a", 2, [])
# None of these is a plan, with or without a ring.
NOT_PLANS = [
    None, True, 3, "", [], (), {}, [("p", STEP)], {"p": None}, {"p": ["a", 2, []]}, {"p": ("a", 2)}, {"p": ("a", 2, [], 0)},
    {"p": ("x", 2, [])}, {"p": (None, 2, [])}, {"p": ("ab", 2, [])}, {"p": (["a"], 2, [])}, {"p": ("a", -1, [])},
    {"p": ("a", True, [])}, {"p": ("a", False, [])}, {"p": ("a", None, [])}, {"p": ("a", "2", [])}, {"p": ("a", 2.0, [])},
    {"p": ("a", 2, None)}, {"p": ("a", 2, "")}, {"p": ("a", 2, {})}, {"p": STEP, "q": ("a", 2, "p")},
    {"p": ("a", 2, ["q"])}, {"p": STEP, "q": ("a", 2, ["p", "p"])}, {"p": STEP, "o": STEP, "q": ("a", 2, ["p", "o"])},
    {"p": STEP, "q": ("a", 2, ["p", True])}, {"p": STEP, "q": ("a", 2, ["p", 3])}, {"p": STEP, "q": ("a", 2, [["p"]])},
    {"p": STEP, "q": ("a", 2, [None])}, {"P": STEP}, {"": STEP}, {"p1": STEP}, {"abcdefghijklm": STEP}, {True: STEP},
    {1: STEP}, {None: STEP}, {("p",): STEP}, {"p": STEP, "q": None}, {"p": STEP, 1: STEP},
    {"p": STEP, "q": ("a", 2, {"p": True})}, {"p" + letter: STEP for letter in "abcdefghijklm"},
]
NOT_ASKS = [
    None, True, 3, "", "a", {}, ("a", 3), ["a", 3], [None], [("a",)], [("a", 3, 4)], [["a", 3]], [("x", 3)], [(1, 3)],
    [("a", True)], [("a", False)], [("a", None)], [("a", "3")], [("a", 3.0)], [("a", [3])], [(["a"], 3)], [("ab", 3)],
    [("a", 3), ("a", 3)], [("a", 3), ("b", 3), ("a", 3)], [("a", 3), None], [("a", 3), ("b", True)], {("a", 3): True},
    [("a", day) for day in range(5)] + [("a", 0)],
]
# For two asks.
NOT_SERVED = [None, True, 3, "", "ab", {}, {1: 2, 3: 4}, [], [1], [1, 2, 3], [1, True], [False, 1], [1, None], [1, "2"],
              [1, 2.0], [[1], 2], [1, (2,)], (1, True), ((1, 2),)]
NOT_THINGS = [None, True, 3, "", "formula day x", [], (), {}, ["day", "x"], ("day", "a"), ("num", True), ("le", X), ("not", X),
              [0, 2], {"a": TABLE}, ([], []), ("le", X, LE), ("on", "x", X), Table, Book, object()]
NOT_TREE_FORMS = NOT_TREES + [("ring", []), ("ring", ()), ("or", RING, ("ring", [])), ("late", 3, ("ring", []), RING)]
NOT_TEXTS = [None, True, False, 0, 3, [], (), {}, ["table 0\n"], ("table 0\n",), b"table 0\n", TABLE, X, 1.0]
NOT_COMMANDS = [
    None, True, 3, [], (), {}, ["rows"], ("rows",), b"rows", "", " ", "Rows", "rows ", " rows", "rows 1", "row", "undo 1",
    "saw", "saw a", "saw a 3", "saw a 3 9 1", "saw  a 3 9", "saw x 3 9", "saw a 03 9", "saw a 3 -0", "saw a +3 9", "states\n",
    "watch", "watch l", "watch L le num 1 num 2", "watch l day x", "ask day x", "least le day x day x", "slack day x",
]
NOT_BOOKS = [None, 3, "book", [], {}, ([], []), TABLE]
# For judges: values of all kinds.
ANYTHING = (NOT_DAYS + NOT_RULES + NOT_NAMES + NOT_FORMULAS + NOT_SAYINGS + NOT_DAY_DICTS + NOT_WORLDS + NOT_TABLES
            + NOT_ROWS + NOT_PROMISES + NOT_PICTURES + NOT_BOUNDS + NOT_PLACES + NOT_TREES + NOT_FORMULA_LISTS
            + NOT_PAIRS + NOT_ROW_LISTS + NOT_STANDS + NOT_LEG_LISTS + NOT_RESTS + NOT_PARTS + NOT_PLANS + NOT_ASKS
            + NOT_SERVED + NOT_TREE_FORMS + NOT_COMMANDS + [Book([], []), object(), Table, print, b"", 10 ** 30, -10 ** 30])


def raised(action):
    """The error that an action raises; None without one."""
    try:
        action()
    except Exception as error:
        return error
    return None


def check_refused(test, error, value, action, attribute="value"):
    """Check that an action raises just this error, with just this value as its attribute."""
    found = raised(action)
    test.assertIsNotNone(found, f"nothing raised, where {error.__name__} of {value!r} is due")
    test.assertIs(found.__class__, error, f"{found!r} where {error.__name__} of {value!r} is due")
    test.assertIs(getattr(found, attribute), value)


def check_too_many(test, what, limit, action):
    """Check that an action raises just TooMany of this."""
    found = raised(action)
    test.assertEqual(found.__class__.__name__, "TooMany", f"{found!r} where TooMany is due")
    test.assertEqual((found.what, found.limit), (what, limit))


def check_missing(test, error, attribute, missing, action):
    """Check that an action raises just this error of what is missing."""
    found = raised(action)
    test.assertIs(found.__class__, error, f"{found!r} where {error.__name__} is due")
    test.assertEqual(getattr(found, attribute), missing)

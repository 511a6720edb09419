"""Things that several tests hand in."""

from readsfrom.errors import NoProgram


class Same:
    """Says of itself that it is equal to whatever it is compared with."""

    __hash__ = None

    def __eq__(self, other):
        return True

    def __ne__(self, other):
        return False


class Rude:
    """Can be neither compared, counted, gone through nor shown."""

    __hash__ = None

    def __eq__(self, other):
        raise AssertionError("compared")

    __lt__ = __le__ = __gt__ = __ge__ = __ne__ = __eq__

    def __len__(self):
        raise AssertionError("counted")

    def __iter__(self):
        raise AssertionError("gone through")

    def __bool__(self):
        raise AssertionError("tested")

    def __repr__(self):
        raise AssertionError("shown")


# Of no kind that a program, or a part of one, or a text is of.
STRANGE = [None, True, False, 1.0, 2.5, b"x", b"read", {}, {"x": "y"}, set(), frozenset("x"), range(3), object(),
           Same(), Rude(), len, int]

ALL_MODES = ["plain", "loose", "giving", "taking", "both"]

# Each sort of deed, over the boxes x and y.
SORTS = {
    "read": ("read", "r", "x", "taking"),
    "write": ("write", "x", 1, "giving"),
    "change": ("change", "r", "x", "add", 1, "both"),
    "swap": ("swap", "r", "x", 0, 1, "both"),
    "wait": ("wait", "r", "x", 1, "taking"),
    "grab": ("grab", "r", "x", 0, 1, "both"),
    "fence": ("fence", "both"),
    "skip": ("skip", "r", "is", 0, 1),
    "claim": ("claim", "r", "isnt", 0),
}

MODES = {
    "read": ["plain", "loose", "taking"],
    "write": ["plain", "loose", "giving"],
    "change": ["loose", "giving", "taking", "both"],
    "swap": ["loose", "giving", "taking", "both"],
    "wait": ["plain", "loose", "taking"],
    "grab": ["loose", "giving", "taking", "both"],
    "fence": ["giving", "taking", "both"],
}

DEED = ("fence", "both")


def put(deed, place, part):
    """The deed with another part at the place."""
    return deed[:place] + (part,) + deed[place + 1:]


def hands_of(*many):
    """Hands with so many deeds each."""
    return [[DEED for _ in range(number)] for number in many]


def long_program():
    """Sixteen deeds, of all sorts and modes, four boxes and four hands, one of them without deeds."""
    return (
        ["a", "b", "ba", "zzzzzz"],
        [
            [
                ("write", "a", 9, "plain"),
                ("write", "b", "r", "loose"),
                ("write", "ba", 0, "giving"),
                ("read", "r", "zzzzzz", "plain"),
                ("read", "rrrrrr", "a", "loose"),
                ("read", "a", "a", "taking"),
                ("change", "r", "a", "add", 5, "loose"),
                ("change", "r", "a", "put", "s", "giving"),
            ],
            [],
            [
                ("swap", "r", "b", 0, 9, "taking"),
                ("swap", "r", "b", 9, "read", "both"),
                ("wait", "r", "b", 7, "plain"),
                ("grab", "r", "b", 3, 4, "loose"),
                ("fence", "giving"),
                ("fence", "taking"),
                ("skip", "r", "is", 1, 8),
            ],
            [("claim", "r", "isnt", 0)],
        ],
    )


LONG_TEXT = """boxes a b ba zzzzzz
hand
write a 9 plain
write b r loose
write ba 0 giving
read r zzzzzz plain
read rrrrrr a loose
read a a taking
change r a add 5 loose
change r a put s giving
hand
hand
swap r b 0 9 taking
swap r b 9 read both
wait r b 7 plain
grab r b 3 4 loose
fence giving
fence taking
skip r is 1 8
hand
claim r isnt 0"""

# Things that are no programs, and of each the values of its refusal.
NO_PROGRAMS = [
    *[(thing, ("program", None, None)) for thing in STRANGE],
    ([["x"], [[]]], ("program", None, None)),
    ((["x"],), ("program", None, None)),
    ("boxes x\nhand", ("program", None, None)),
    ((["x"], [[]], []), ("program", None, None)),
    (((), []), ("boxes", None, None)),
    ((["y", "x"], [[None]]), ("boxes", None, 1)),
    ((["x"], ()), ("hands", None, None)),
    ((["x"], [[], ()]), ("hands", 1, None)),
    ((["x"], [[], [("fence", "both"), ("write", "x", True, "plain")]]), ("deeds", 1, 1)),
    ((["x"], hands_of(8, 8, 1)), ("deeds", None, None)),
]


def refuses_programs(test, call):
    """Check that what is called with a program refuses what is none."""
    for thing, values in NO_PROGRAMS:
        with test.assertRaises(NoProgram) as caught:
            call(thing)
        told = caught.exception
        test.assertEqual((told.part, told.hand, told.number), values)

# A program that passes numbers on, and the lines and rows of one of its graphs.
PASSED = """boxes x y
hand
read r x loose
write y r giving
hand
read s y taking
fence both
change s x add 3 both"""
PASSED_LINES = [
    [("read", "x", "loose", 3, (1, 2)), ("write", "y", "giving", 3)],
    [("read", "y", "taking", 0, None), ("fence", "both"), ("change", "x", "both", 0, 3, None)],
]
PASSED_ROWS = [[(1, 2)], [(0, 1)]]

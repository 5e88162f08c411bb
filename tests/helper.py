"""What several test files need: rows to walk, things that are no rows, and how a refusal is looked at."""

from pearlhall.errors import NoBag, NoKeen, NoMix, NoRow, PearlError, TooMany

REFUSALS = [NoRow, NoKeen, TooMany, NoMix, NoBag]


def check_refused(case, refusal, call, *things):
    """The call is refused with this refusal itself, and with none of the other four."""
    with case.assertRaises(PearlError, msg=repr(things)) as caught:
        call(*things)
    for one in REFUSALS:
        case.assertEqual(isinstance(caught.exception, one), one is refusal, (one, things))
    case.assertIs(caught.exception.__class__, refusal)


def rows_of(colours, most):
    """All rows of 1 to `most` pearls of the colours."""
    found = []
    last = [""]
    for size in range(most):
        last = [row + pearl for row in last for pearl in colours]
        found.extend(last)
    return found


def scattered_rows(colours, sizes):
    """One row of each of the sizes, without any order in it, but the same ones in each run."""
    found = []
    state = 1
    for size in sizes:
        row = ""
        for step in range(size):
            state = (state * 1103515245 + 12345) % 2 ** 31
            row += colours[(state >> 16) % len(colours)]
        found.append(row)
    return found


def is_keen_by_words(row):
    """The words of [6]."""
    for place in range(1, len(row)):
        if not row < row[place:]:
            return False
    return True


LONG_ROWS = [
    "a" * 24,
    "ab" * 12,
    "abc" * 8,
    "edcba" * 4 + "edcb",
    "abcdeabcdeabcdeabcdeabcd",
    "abaababaabaababaababaaba",
    "a" * 23 + "b",
    "b" + "a" * 23,
    "eabcdeabcdeabcdeabcdeabc",
]

SCATTERED_ROWS = [
    row for colours in ("ab", "abc", "abcde") for row in scattered_rows(colours, list(range(9, 25)) + [24] * 20)
]

# Short rows of few colours meet every shape; the long ones stand for the upper bound.
ROWS = rows_of("ab", 8) + rows_of("abc", 4) + rows_of("abcde", 2) + LONG_ROWS

NO_ROWS = [
    "",
    "a" * 25,
    "abcde" * 5,
    "a" * 1000,
    "f",
    "A",
    "abcdef",
    "fabcde",
    "abXde",
    "a b",
    " a",
    "a ",
    "a\n",
    "\n",
    "\x00",
    "0",
    "1",
    "(ab)",
    "\u0430",
    "a\u0301",
    "\uff41",
    "\ud800",
    None,
    True,
    False,
    0,
    1,
    -1,
    10 ** 30,
    1.5,
    float("nan"),
    2j,
    b"a",
    bytearray(b"a"),
    [],
    ["a"],
    ["a", "b"],
    (),
    ("a",),
    {},
    {"a": "b"},
    set(),
    {"a"},
    frozenset("ab"),
    range(3),
    iter("ab"),
    len,
    str,
    object(),
    Ellipsis,
]

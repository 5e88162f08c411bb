"""What several test files need: rows to walk, and things that are no rows."""


def rows_of(colours, most):
    """All rows of 1 to `most` pearls of the colours."""
    found = []
    last = [""]
    for size in range(most):
        last = [row + pearl for row in last for pearl in colours]
        found.extend(last)
    return found


LONG_ROWS = [
    "a" * 24,
    "ab" * 12,
    "abc" * 8,
    "edcba" * 4 + "edcb",
    "abcdeabcdeabcdeabcdeabcd",
    "abaababaabaababaababaaba",
    "a" * 23 + "b",
    "b" + "a" * 23,
    "eabcdeabcdeabcdeabcdeabc",
]

# Short rows of few colours meet every shape; the long ones stand for the upper bound.
ROWS = rows_of("ab", 8) + rows_of("abc", 4) + rows_of("abcde", 2) + LONG_ROWS

NO_ROWS = [
    "",
    "a" * 25,
    "abcde" * 5,
    "a" * 1000,
    "f",
    "A",
    "abcdef",
    "fabcde",
    "abXde",
    "a b",
    " a",
    "a ",
    "a\n",
    "\n",
    "\x00",
    "0",
    "1",
    "(ab)",
    "\u0430",
    "a\u0301",
    "\uff41",
    "\ud800",
    None,
    True,
    False,
    0,
    1,
    -1,
    10 ** 30,
    1.5,
    float("nan"),
    2j,
    b"a",
    bytearray(b"a"),
    [],
    ["a"],
    ["a", "b"],
    (),
    ("a",),
    {},
    {"a": "b"},
    set(),
    {"a"},
    frozenset("ab"),
    range(3),
    iter("ab"),
    len,
    str,
    object(),
    Ellipsis,
]

"""Rows of pearls: what a row is, its turnings, its root and its wreath."""

from pearlhall.errors import NoRow

PEARLS = "abcde"
MOST_PEARLS = 24


def checked(row):
    if not isinstance(row, str):
        raise NoRow("a row is a text")
    if not 1 <= len(row) <= MOST_PEARLS:
        raise NoRow("a row has 1 to 24 pearls")
    if not all([sign in PEARLS for sign in row]):
        raise NoRow("a pearl is one of a, b, c, d, e")
    return row


def turned(row, number):
    # The remainder stands for the number, so that a very large one costs no more than a small one;
    # max keeps the empty text, which turns to itself, from a division by nought.
    place = number % max(len(row), 1)
    return row[place:] + row[:place]


def turnings(row):
    # max, because the empty text is a turning of itself, too.
    return sorted(set([turned(row, number) for number in range(max(len(row), 1))]))


def head(row):
    return turnings(row)[0]


def root(row):
    # A size that doesn't divide the length makes a text that is too short, so it never fits.
    for size in range(1, len(row)):
        times = len(row) // size
        if row[:size] * times == row:
            return (row[:size], times)
    return (row, 1)


def mirrored(row):
    return row[::-1]


def wreath(row):
    return min(head(row), head(mirrored(row)))

"""Keen rows: what is one, how each row is cut into them, and how they are split and bracketed."""

from pearlhall.errors import NoKeen, NoRow
from pearlhall.rows import checked


def is_keen(row):
    # The empty text has no end that it would have to be less than, but it is no row either.
    return row != "" and all([row < row[place:] for place in range(1, len(row))])


def is_keen_row(thing):
    # Asked where a refusal is told: there a thing of any kind comes, and only a row can be a keen row.
    try:
        checked(thing)
    except NoRow:
        return False
    return is_keen(thing)


def cut(row):
    # The least of all ends is keen, for its own ends are ends of the row, too. What is ahead of it has no
    # last part that is less: such a part, with the least end behind it, would be a lesser end yet.
    parts = []
    rest = row
    while rest:
        least = min([rest[place:] for place in range(len(rest))])
        parts.insert(0, least)
        rest = rest[:len(rest) - len(least)]
    return parts


def split_keen(row):
    if not is_keen_row(row) or len(row) == 1:
        raise NoKeen("only a keen row of two or more pearls is split")
    place = 1
    # This ends at the last pearl at the latest: one pearl is keen.
    while not is_keen(row[place:]):
        place += 1
    return (row[:place], row[place:])


def bracketed(row):
    if not is_keen_row(row):
        raise NoKeen("only a keen row is bracketed")
    if len(row) == 1:
        return row
    parts = split_keen(row)
    return "(" + bracketed(parts[0]) + bracketed(parts[1]) + ")"

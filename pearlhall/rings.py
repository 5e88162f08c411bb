"""All keen rows of a size, the ring of all rows, and how many keen rows, rings and wreaths there are."""

from pearlhall.errors import TooMany
from pearlhall.keen import is_keen
from pearlhall.rows import PEARLS

MOST_ROWS = 256


def how_many_rows(colours, size):
    many = 1
    for step in range(size):
        many = many * colours
    return many


def divisors(size):
    return [number for number in range(1, size + 1) if size % number == 0]


def longer_by_one(rows, pearls):
    longer = []
    for row in rows:
        longer.extend([row + pearl for pearl in pearls])
    return longer


def keen_rows(colours, size):
    if how_many_rows(colours, size) > MOST_ROWS:
        raise TooMany("there are more than 256 rows of this size")
    found = []
    rows = [""]
    for step in range(size):
        rows = longer_by_one(rows, PEARLS[:colours])
        found.extend([row for row in rows if is_keen(row)])
    return sorted(found)


def ring_of_all(colours, size):
    return "".join([row for row in keen_rows(colours, size) if size % len(row) == 0])


def count_keen(colours, size):
    # There is no row without a pearl, and nothing is divided by nought below.
    if size < 1:
        return 0
    # Each row is, in one way, a turning of a keen row put some times one behind another, and a keen row has as
    # many turnings as pearls: without the turnings of the shorter ones, those of the keen rows of the size are left.
    others = sum([shorter * count_keen(colours, shorter) for shorter in divisors(size) if shorter < size])
    return (how_many_rows(colours, size) - others) // size


def count_rings(colours, size):
    # The head of a ring is one keen row, put some times one behind another.
    return sum([count_keen(colours, shorter) for shorter in divisors(size)])


def count_own_mirrors(colours, size):
    # As many rings are their own mirrored ones as rows, in the mean over all mirror lines, are left as they are by
    # a line: the pearls on it and on one side of it are free. Each line of an odd size goes through one pearl; of
    # an even size, half the lines go through none and half through two.
    return (how_many_rows(colours, (size + 1) // 2) + how_many_rows(colours, size // 2 + 1)) // 2


def count_wreaths(colours, size):
    if size < 1:
        return 0
    # A ring that is its own mirrored one makes a wreath by itself, all others two and two.
    return (count_rings(colours, size) + count_own_mirrors(colours, size)) // 2

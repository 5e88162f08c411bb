import itertools
import math
import unittest

from helper import check_refused, is_keen_by_words
from pearlhall.errors import TooMany
from pearlhall.rings import count_keen, count_rings, count_wreaths, keen_rows, ring_of_all

PEARLS = "abcde"
ASKED = [(colours, size) for colours in range(1, 6) for size in range(1, 9)]
FEW = [(colours, size) for colours, size in ASKED if colours ** size <= 256]
MANY = [(colours, size) for colours, size in ASKED if colours ** size > 256]
COUNTED = [(colours, size) for colours in range(1, 6) for size in range(1, 13)]


def all_rows(colours, size):
    return ["".join(pearls) for pearls in itertools.product(PEARLS[:colours], repeat=size)]


def rows_met(text, size):
    """All rows of the size that are met in the text, closed to a ring."""
    return [
        "".join(text[(place + step) % len(text)] for step in range(size))
        for place in range(len(text))
    ]


def has_each_row_once(text, colours, size):
    return sorted(rows_met(text, size)) == all_rows(colours, size)


def can_be_closed(start, colours, size):
    """Whether a text that begins so, with at least size - 1 pearls, can have each row of the size once.

    A row of the size is a step from its beginning to its end, both a pearl shorter. The steps that are left can be
    gone in one walk back to where the text began just if each of them hangs together with the place that the text
    has come to: as many steps come to each place as leave it, but for these two places.
    """
    gone = [start[place:place + size] for place in range(len(start) - size + 1)]
    if len(set(gone)) < len(gone):
        return False
    left = [row for row in all_rows(colours, size) if row not in set(gone)]
    begun, come_to = start[:size - 1], start[len(start) - size + 1:]
    if not left:
        return begun == come_to
    beside = {}
    for row in left:
        beside.setdefault(row[:-1], set()).add(row[1:])
        beside.setdefault(row[1:], set()).add(row[:-1])
    reached, waiting = {come_to}, [come_to]
    while waiting:
        for place in beside.get(waiting.pop(), ()):
            if place not in reached:
                reached.add(place)
                waiting.append(place)
    return all(row[1:] in reached for row in left)


class KeenRowsTest(unittest.TestCase):
    def test_examples(self):
        self.assertEqual(keen_rows(1, 1), ["a"])
        self.assertEqual(keen_rows(1, 8), ["a"])
        self.assertEqual(keen_rows(5, 1), ["a", "b", "c", "d", "e"])
        self.assertEqual(keen_rows(2, 3), ["a", "aab", "ab", "abb", "b"])
        self.assertEqual(keen_rows(2, 4), ["a", "aaab", "aab", "aabb", "ab", "abb", "abbb", "b"])
        self.assertEqual(keen_rows(3, 2), ["a", "ab", "ac", "b", "bc", "c"])

    def test_all_rows_gone_through(self):
        for colours, size in FEW:
            expected = []
            for shorter in range(1, size + 1):
                expected.extend([row for row in all_rows(colours, shorter) if is_keen_by_words(row)])
            told = keen_rows(colours, size)
            self.assertIs(told.__class__, list)
            self.assertEqual(told, sorted(expected), (colours, size))

    def test_just_256_rows_are_not_too_many(self):
        self.assertEqual(len(keen_rows(2, 8)), 2 + 1 + 2 + 3 + 6 + 9 + 18 + 30)
        self.assertEqual(len(keen_rows(4, 4)), 4 + 6 + 20 + 60)

    def test_too_many(self):
        for colours, size in MANY:
            check_refused(self, TooMany, keen_rows, colours, size)


class RingOfAllTest(unittest.TestCase):
    def test_examples(self):
        self.assertEqual(ring_of_all(1, 1), "a")
        self.assertEqual(ring_of_all(1, 8), "a")
        self.assertEqual(ring_of_all(5, 1), "abcde")
        self.assertEqual(ring_of_all(2, 2), "aabb")
        self.assertEqual(ring_of_all(2, 3), "aaababbb")
        self.assertEqual(ring_of_all(2, 4), "aaaabaabbababbbb")
        self.assertEqual(ring_of_all(3, 2), "aabacbbcc")

    def test_the_keen_rows_whose_length_divides_the_size(self):
        for colours, size in FEW:
            parts = [row for row in keen_rows(colours, size) if size % len(row) == 0]
            self.assertEqual(ring_of_all(colours, size), "".join(parts))

    def test_each_row_once(self):
        for colours, size in FEW:
            told = ring_of_all(colours, size)
            self.assertIs(told.__class__, str)
            self.assertEqual(len(told), colours ** size)
            self.assertTrue(has_each_row_once(told, colours, size), (colours, size))

    def test_the_least_of_all_texts_gone_through(self):
        for colours, size in [(1, 1), (1, 5), (2, 1), (2, 2), (2, 3), (2, 4), (3, 1), (3, 2), (4, 1), (5, 1)]:
            texts = all_rows(colours, colours ** size)
            least = next(text for text in texts if has_each_row_once(text, colours, size))
            self.assertEqual(ring_of_all(colours, size), least)

    def test_no_text_that_is_less_at_any_place_can_be_closed(self):
        for colours, size in FEW:
            told = ring_of_all(colours, size)
            if colours == 1:
                self.assertEqual(told, "a")
                continue
            # Nothing is less than this beginning, so that only the places behind it are looked at.
            self.assertEqual(told[:size], "a" * size)
            self.assertTrue(can_be_closed(told, colours, size))
            for place in range(size, len(told)):
                for pearl in PEARLS[:PEARLS.index(told[place])]:
                    self.assertFalse(can_be_closed(told[:place] + pearl, colours, size), (told, place))

    def test_too_many(self):
        for colours, size in MANY:
            check_refused(self, TooMany, ring_of_all, colours, size)


class CountTest(unittest.TestCase):
    def test_examples(self):
        self.assertEqual([count_keen(2, size) for size in range(1, 9)], [2, 1, 2, 3, 6, 9, 18, 30])
        self.assertEqual([count_rings(2, size) for size in range(1, 9)], [2, 3, 4, 6, 8, 14, 20, 36])
        self.assertEqual([count_wreaths(2, size) for size in range(1, 9)], [2, 3, 4, 6, 8, 13, 18, 30])
        self.assertEqual([count_keen(1, size) for size in range(1, 5)], [1, 0, 0, 0])
        self.assertEqual([count_rings(1, size) for size in range(1, 5)], [1, 1, 1, 1])
        self.assertEqual([count_wreaths(1, size) for size in range(1, 5)], [1, 1, 1, 1])
        self.assertEqual([count_wreaths(3, size) for size in range(1, 7)], [3, 6, 10, 21, 39, 92])
        for count in (count_keen, count_rings, count_wreaths):
            self.assertEqual(count(5, 1), 5)

    def test_all_rows_gone_through(self):
        for colours, size in COUNTED:
            if colours ** size > 5000:
                continue
            keen, rings, wreaths = 0, set(), set()
            for row in all_rows(colours, size):
                turns = [row[place:] + row[:place] for place in range(size)]
                keen += is_keen_by_words(row)
                rings.add(min(turns))
                wreaths.add(min(turns + [turn[::-1] for turn in turns]))
            self.assertEqual(count_keen(colours, size), keen, (colours, size))
            self.assertEqual(count_rings(colours, size), len(rings), (colours, size))
            self.assertEqual(count_wreaths(colours, size), len(wreaths), (colours, size))

    def test_the_keen_rows_of_all_divisors_make_all_rows(self):
        for colours, size in COUNTED:
            parts = [part for part in range(1, size + 1) if size % part == 0]
            self.assertEqual(sum(part * count_keen(colours, part) for part in parts), colours ** size)
            self.assertEqual(sum(count_keen(colours, part) for part in parts), count_rings(colours, size))

    def test_rings_and_wreaths_by_what_each_turning_leaves_as_it_is(self):
        for colours, size in COUNTED:
            turned = sum(colours ** math.gcd(number, size) for number in range(size))
            mirrored = sum(colours ** len({frozenset([place, (number - place) % size]) for place in range(size)})
                           for number in range(size))
            self.assertEqual(count_rings(colours, size) * size, turned)
            self.assertEqual(count_wreaths(colours, size) * 2 * size, turned + mirrored)

    def test_as_many_as_are_told(self):
        for colours, size in FEW:
            told = keen_rows(colours, size)
            self.assertEqual(len([row for row in told if len(row) == size]), count_keen(colours, size))

    def test_whole_numbers(self):
        for colours, size in COUNTED:
            for count in (count_keen, count_rings, count_wreaths):
                self.assertIs(count(colours, size).__class__, int)


class BeyondTheBoundTest(unittest.TestCase):
    """Only TooMany is told: a number somewhat beyond its bound is answered all the same."""

    def test_larger_sizes(self):
        self.assertEqual(keen_rows(1, 9), ["a"])
        self.assertEqual(ring_of_all(1, 12), "a")
        for call in (keen_rows, ring_of_all):
            check_refused(self, TooMany, call, 2, 9)
        self.assertEqual(count_keen(2, 13), (2 ** 13 - 2) // 13)
        self.assertEqual(count_rings(2, 13), (2 ** 13 - 2) // 13 + 2)
        self.assertEqual(count_wreaths(2, 13), ((2 ** 13 - 2) // 13 + 2 + 2 ** 7) // 2)
        self.assertEqual(count_keen(6, 2), 15)

    def test_no_pearl(self):
        self.assertEqual(keen_rows(2, 0), [])
        self.assertEqual(ring_of_all(2, 0), "")
        for count in (count_keen, count_rings, count_wreaths):
            self.assertEqual(count(3, 0), 0)


if __name__ == "__main__":
    unittest.main()

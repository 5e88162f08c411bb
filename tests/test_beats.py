import math
import unittest

from helper import LONG_ROWS, ROWS, rows_of
from pearlhall.beats import beats, borders, endless
from pearlhall.rows import root


def is_border(row, size):
    return all(row[place] == row[len(row) - size + place] for place in range(size))


def is_beat(row, beat):
    return all(row[place] == row[place + beat] for place in range(len(row) - beat))


def compared_pearl_by_pearl(one, other):
    """The words of [5], as far as the place where both rows begin anew together."""
    for place in range(math.lcm(len(one), len(other))):
        left = one[place % len(one)]
        right = other[place % len(other)]
        if left != right:
            return -1 if left < right else 1
    return 0


class BordersTest(unittest.TestCase):
    def test_examples(self):
        self.assertEqual(borders("a"), [])
        self.assertEqual(borders("ab"), [])
        self.assertEqual(borders("aa"), [1])
        self.assertEqual(borders("aba"), [1])
        self.assertEqual(borders("abab"), [2])
        self.assertEqual(borders("ababa"), [1, 3])
        self.assertEqual(borders("abacaba"), [1, 3])
        self.assertEqual(borders("aaaa"), [1, 2, 3])
        self.assertEqual(borders("a" * 24), list(range(1, 24)))
        self.assertEqual(borders("ab" * 12), list(range(2, 24, 2)))
        self.assertEqual(borders("a" * 23 + "b"), [])

    def test_all_beginnings_that_are_ends(self):
        for row in ROWS:
            expected = [size for size in range(1, len(row)) if is_border(row, size)]
            self.assertEqual(borders(row), expected, row)


class BeatsTest(unittest.TestCase):
    def test_examples(self):
        self.assertEqual(beats("a"), [1])
        self.assertEqual(beats("ab"), [2])
        self.assertEqual(beats("aa"), [1, 2])
        self.assertEqual(beats("aba"), [2, 3])
        self.assertEqual(beats("abab"), [2, 4])
        self.assertEqual(beats("ababa"), [2, 4, 5])
        self.assertEqual(beats("abcabca"), [3, 6, 7])
        self.assertEqual(beats("a" * 24), list(range(1, 25)))

    def test_no_border_so_the_length_is_the_one_beat(self):
        for row in ["a", "ab", "abcde", "aab", "a" * 23 + "b"]:
            self.assertEqual(borders(row), [])
            self.assertEqual(beats(row), [len(row)])

    def test_all_distances_at_which_pearls_are_alike(self):
        for row in ROWS:
            expected = [beat for beat in range(1, len(row) + 1) if is_beat(row, beat)]
            self.assertEqual(beats(row), expected, row)

    def test_the_divisor_of_two_beats(self):
        self.assertEqual(beats("abababab"), [2, 4, 6, 8])
        met = 0
        for row in ROWS:
            told = beats(row)
            for one in told:
                for other in told:
                    divisor = math.gcd(one, other)
                    if one + other - divisor <= len(row):
                        self.assertIn(divisor, told, (row, one, other))
                        met += divisor not in (one, other)
        self.assertGreater(met, 0)

    def test_one_pearl_too_few_for_the_divisor(self):
        # 5 + 8 - 1 is one more than the 11 pearls.
        self.assertEqual(beats("abaababaaba"), [5, 8, 10, 11])
        self.assertEqual(beats("aba"), [2, 3])

    def test_numbers_are_whole_numbers(self):
        for row in ROWS:
            for number in beats(row) + borders(row):
                self.assertIs(number.__class__, int)


class EndlessTest(unittest.TestCase):
    def test_examples(self):
        self.assertEqual(endless("a", "b"), -1)
        self.assertEqual(endless("b", "a"), 1)
        self.assertEqual(endless("a", "a"), 0)
        self.assertEqual(endless("ab", "a"), 1)
        self.assertEqual(endless("a", "ab"), -1)
        self.assertEqual(endless("ab", "aba"), 1)
        self.assertEqual(endless("aba", "ab"), -1)
        self.assertEqual(endless("ba", "b"), -1)
        self.assertEqual(endless("b", "ba"), 1)

    def test_never_differing_though_the_lengths_do(self):
        self.assertEqual(endless("ab", "abab"), 0)
        self.assertEqual(endless("abab", "ababab"), 0)
        self.assertEqual(endless("a", "a" * 24), 0)
        self.assertEqual(endless("ab" * 12, "ab"), 0)
        self.assertEqual(endless("abc" * 8, "abc" * 7), 0)

    def test_differing_late(self):
        # Alike for 11 pearls, which is one less than 5 + 8 - 1.
        self.assertEqual(endless("abaab", "abaababa"), 1)
        self.assertEqual(endless("abaababa", "abaab"), -1)
        self.assertEqual(endless("a" * 24, "a" * 23 + "b"), -1)
        self.assertEqual(endless("a" * 23 + "b", "a" * 22 + "b"), -1)

    def test_pearl_by_pearl(self):
        rows = rows_of("ab", 6) + rows_of("abc", 3) + LONG_ROWS
        for one in rows:
            for other in rows:
                told = endless(one, other)
                self.assertIs(told.__class__, int)
                self.assertEqual(told, compared_pearl_by_pearl(one, other), (one, other))

    def test_never_differing_just_if_the_roots_are_the_same(self):
        rows = rows_of("ab", 6) + LONG_ROWS
        for one in rows:
            for other in rows:
                self.assertEqual(endless(one, other) == 0, root(one)[0] == root(other)[0], (one, other))


class BeyondTheBoundTest(unittest.TestCase):
    """A length somewhat beyond the bound is answered all the same."""

    def test_more_than_twenty_four_pearls(self):
        self.assertEqual(borders("ab" * 13), list(range(2, 26, 2)))
        self.assertEqual(beats("ab" * 13), list(range(2, 27, 2)))
        self.assertEqual(endless("ab" * 13, "ab"), 0)
        self.assertEqual(endless("a" * 25 + "b", "a" * 25), 1)

    def test_no_pearl(self):
        self.assertEqual(borders(""), [])
        self.assertEqual(beats(""), [])


if __name__ == "__main__":
    unittest.main()

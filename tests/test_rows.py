import unittest

from helper import NO_ROWS, ROWS
from pearlhall.errors import NoRow, PearlError
from pearlhall.rows import checked, head, mirrored, root, turned, turnings, wreath

HUGE = 10 ** 400


def turned_one_by_one(row, number):
    """The words of [3]: pearl by pearl, forwards or backwards."""
    pearls = list(row)
    for step in range(abs(number)):
        if number > 0:
            pearls.append(pearls.pop(0))
        else:
            pearls.insert(0, pearls.pop())
    return "".join(pearls)


class CheckedTest(unittest.TestCase):
    def test_rows_are_given_back(self):
        for row in ROWS + ["a", "b", "c", "d", "e", "abcde", "edcba"]:
            self.assertEqual(checked(row), row)

    def test_one_pearl_and_twenty_four(self):
        self.assertEqual(checked("e"), "e")
        self.assertEqual(checked("c" * 24), "c" * 24)

    def test_no_rows_are_refused(self):
        for thing in NO_ROWS:
            for refusal in (NoRow, PearlError, ValueError):
                with self.subTest(thing=repr(thing), refusal=refusal.__name__):
                    with self.assertRaises(refusal):
                        checked(thing)

    def test_refused_with_no_row_itself(self):
        for thing in NO_ROWS:
            with self.assertRaises(ValueError) as caught:
                checked(thing)
            self.assertIs(caught.exception.__class__, NoRow)

    def test_a_thing_that_cannot_be_shown_or_compared_is_refused(self):
        class Stubborn:
            def __repr__(self):
                raise RuntimeError("not shown")

            def __str__(self):
                raise RuntimeError("not shown")

            def __eq__(self, other):
                raise RuntimeError("not compared")

            def __len__(self):
                raise RuntimeError("not counted")

            def __iter__(self):
                raise RuntimeError("not walked")

        with self.assertRaises(NoRow):
            checked(Stubborn())

    def test_a_list_that_holds_itself_is_refused(self):
        ring = []
        ring.append(ring)
        with self.assertRaises(NoRow):
            checked(ring)

    def test_every_sign_but_the_five_is_refused(self):
        for code in range(0x250):
            sign = chr(code)
            if sign in ("a", "b", "c", "d", "e"):
                self.assertEqual(checked(sign), sign)
            else:
                for text in (sign, "a" + sign, sign + "a", "ab" + sign + "cd"):
                    with self.assertRaises(NoRow):
                        checked(text)


class TurnedTest(unittest.TestCase):
    def test_examples(self):
        self.assertEqual(turned("abcde", 0), "abcde")
        self.assertEqual(turned("abcde", 1), "bcdea")
        self.assertEqual(turned("abcde", 2), "cdeab")
        self.assertEqual(turned("abcde", 5), "abcde")
        self.assertEqual(turned("abcde", 7), "cdeab")
        self.assertEqual(turned("abcde", -1), "eabcd")
        self.assertEqual(turned("abcde", -6), "eabcd")
        self.assertEqual(turned("d", 3), "d")
        self.assertEqual(turned("d", -3), "d")

    def test_very_large_numbers(self):
        self.assertEqual(turned("abcde", HUGE + 1), "bcdea")
        self.assertEqual(turned("abcde", -HUGE - 1), "eabcd")
        self.assertEqual(turned("abc", HUGE), "bca")
        self.assertEqual(turned("abc", -HUGE), "cab")
        self.assertEqual(turned("a" * 23 + "b", 24 * HUGE + 23), "b" + "a" * 23)

    def test_pearl_by_pearl(self):
        for row in ROWS:
            for number in range(-2 * len(row) - 1, 2 * len(row) + 2):
                self.assertEqual(turned(row, number), turned_one_by_one(row, number), (row, number))


class TurningsTest(unittest.TestCase):
    def test_examples(self):
        self.assertEqual(turnings("a"), ["a"])
        self.assertEqual(turnings("cab"), ["abc", "bca", "cab"])
        self.assertEqual(turnings("baba"), ["abab", "baba"])
        self.assertEqual(turnings("e" * 24), ["e" * 24])

    def test_each_once_and_rising(self):
        for row in ROWS:
            told = turnings(row)
            self.assertIsInstance(told, list)
            for one, other in zip(told, told[1:]):
                self.assertLess(one, other)
            expected = {turned_one_by_one(row, number) for number in range(len(row))}
            self.assertEqual(set(told), expected)

    def test_twenty_four_turnings(self):
        self.assertEqual(len(turnings("a" * 23 + "b")), 24)


class HeadTest(unittest.TestCase):
    def test_examples(self):
        self.assertEqual(head("a"), "a")
        self.assertEqual(head("cab"), "abc")
        self.assertEqual(head("baa"), "aab")
        self.assertEqual(head("dcdb"), "bdcd")
        self.assertEqual(head("ba" * 12), "ab" * 12)

    def test_least_of_all_turnings(self):
        for row in ROWS:
            told = head(row)
            expected = [turned_one_by_one(row, number) for number in range(len(row))]
            self.assertIn(told, expected)
            self.assertTrue(all(told <= turning for turning in expected))


class RootTest(unittest.TestCase):
    def test_examples(self):
        self.assertEqual(root("a"), ("a", 1))
        self.assertEqual(root("aaa"), ("a", 3))
        self.assertEqual(root("ab"), ("ab", 1))
        self.assertEqual(root("abab"), ("ab", 2))
        self.assertEqual(root("aba"), ("aba", 1))
        self.assertEqual(root("ababa"), ("ababa", 1))
        self.assertEqual(root("abaaba"), ("aba", 2))
        self.assertEqual(root("abcde"), ("abcde", 1))
        self.assertEqual(root("ab" * 12), ("ab", 12))
        self.assertEqual(root("e" * 24), ("e", 24))
        self.assertEqual(root("abcaabcaabcb" * 2), ("abcaabcaabcb", 2))
        self.assertEqual(root("a" * 23 + "b"), ("a" * 23 + "b", 1))

    def test_shortest_row_that_makes_it(self):
        for row in ROWS:
            told = root(row)
            self.assertIs(told.__class__, tuple)
            short, times = told
            self.assertIs(times.__class__, int)
            self.assertEqual(short * times, row)
            for size in range(1, len(short)):
                self.assertNotIn(row, [row[:size] * many for many in range(1, 25)])


class MirroredTest(unittest.TestCase):
    def test_examples(self):
        self.assertEqual(mirrored("a"), "a")
        self.assertEqual(mirrored("abcde"), "edcba")
        self.assertEqual(mirrored("aab"), "baa")
        self.assertEqual(mirrored("a" * 23 + "b"), "b" + "a" * 23)

    def test_last_pearl_first(self):
        for row in ROWS:
            self.assertEqual(mirrored(row), "".join(reversed(row)))


class WreathTest(unittest.TestCase):
    def test_examples(self):
        self.assertEqual(wreath("a"), "a")
        self.assertEqual(wreath("cab"), "abc")
        self.assertEqual(wreath("acb"), "abc")
        self.assertEqual(wreath("aabacb"), "aabacb")
        self.assertEqual(wreath("aabcab"), "aabacb")
        self.assertEqual(wreath("edcba"), "abcde")

    def test_the_mirrored_row_may_be_less_and_may_not(self):
        self.assertEqual(head("acb"), "acb")
        self.assertEqual(wreath("acb"), "abc")
        self.assertEqual(head("abc"), "abc")
        self.assertEqual(wreath("abc"), "abc")

    def test_least_of_the_turnings_of_both(self):
        for row in ROWS:
            both = []
            for side in (row, "".join(reversed(row))):
                both.extend([turned_one_by_one(side, number) for number in range(len(side))])
            self.assertEqual(wreath(row), sorted(both)[0])


class BeyondTheBoundTest(unittest.TestCase):
    """Only `checked` refuses: a length somewhat beyond the bound is answered all the same."""

    def test_more_than_twenty_four_pearls(self):
        row = "b" + "a" * 25
        self.assertEqual(turned(row, 27), "a" * 25 + "b")
        self.assertEqual(len(turnings(row)), 26)
        self.assertEqual(head(row), "a" * 25 + "b")
        self.assertEqual(wreath(row), "a" * 25 + "b")
        self.assertEqual(mirrored(row), "a" * 25 + "b")
        self.assertEqual(root("ab" * 13), ("ab", 13))

    def test_no_pearl(self):
        self.assertEqual(turned("", 3), "")
        self.assertEqual(turnings(""), [""])
        self.assertEqual(head(""), "")
        self.assertEqual(wreath(""), "")
        self.assertEqual(mirrored(""), "")
        self.assertEqual(root(""), ("", 1))


if __name__ == "__main__":
    unittest.main()

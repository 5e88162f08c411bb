import unittest

from helper import LONG_ROWS, NO_ROWS, SCATTERED_ROWS, check_refused, is_keen_by_words, rows_of
from pearlhall.errors import NoKeen
from pearlhall.keen import bracketed, cut, is_keen, split_keen

WALKED = rows_of("ab", 8) + rows_of("abc", 8) + rows_of("abcde", 4) + LONG_ROWS + SCATTERED_ROWS
KEEN = [row for row in rows_of("abcde", 6) if is_keen_by_words(row)]
LONG_KEEN = [row for row in LONG_ROWS if is_keen_by_words(row)] + [
    "ab" * 11 + "bb",
    "a" + "b" * 23,
    "aabab" + "abb" * 6,
    "aaaaaaaaaaaabaaaaaaaaaab",
    "abcdeabcdeabcdeabcdeabce",
]
NO_TEXTS = [["ab"], ("a", "b"), {"ab": 1}, {"ab"}, b"ab", (("a", "b"),), iter(["ab"])]


def ways_to_cut(row):
    """All lists of texts, none empty, that make the row."""
    if row == "":
        return [[]]
    return [[row[:size]] + rest for size in range(1, len(row) + 1) for rest in ways_to_cut(row[size:])]


def is_cut(parts):
    if not all(is_keen_by_words(part) for part in parts):
        return False
    return all(ahead >= part for ahead, part in zip(parts, parts[1:]))


def split_by_words(row):
    """The words of [7]: of all shorter keen ends the longest, and what is ahead of it."""
    ends = [row[place:] for place in range(1, len(row)) if is_keen_by_words(row[place:])]
    second = max(ends, key=len)
    return row[:-len(second)], second


def bracketed_by_words(row):
    if len(row) == 1:
        return row
    first, second = split_by_words(row)
    return "(" + bracketed_by_words(first) + bracketed_by_words(second) + ")"


class IsKeenTest(unittest.TestCase):
    def test_examples(self):
        for row in ("a", "b", "e", "ab", "aab", "abb", "aabab", "abac", "abcde", "ae", "ace"):
            self.assertIs(is_keen(row), True, row)
        for row in ("aa", "ba", "aba", "abab", "aabaab", "abaab", "bab", "edcba", "e" * 24, "abcdea"):
            self.assertIs(is_keen(row), False, row)

    def test_one_pearl_and_twenty_four(self):
        for pearl in "abcde":
            self.assertIs(is_keen(pearl), True)
        self.assertIs(is_keen("a" * 23 + "b"), True)
        self.assertIs(is_keen("b" + "a" * 23), False)
        self.assertIs(is_keen("ab" * 12), False)

    def test_less_than_each_shorter_end(self):
        for row in WALKED:
            self.assertIs(is_keen(row), is_keen_by_words(row), row)


class CutTest(unittest.TestCase):
    def test_examples(self):
        self.assertEqual(cut("a"), ["a"])
        self.assertEqual(cut("aaa"), ["a", "a", "a"])
        self.assertEqual(cut("ab"), ["ab"])
        self.assertEqual(cut("ba"), ["b", "a"])
        self.assertEqual(cut("abab"), ["ab", "ab"])
        self.assertEqual(cut("aba"), ["ab", "a"])
        self.assertEqual(cut("cbabcabaab"), ["c", "b", "abc", "ab", "aab"])
        self.assertEqual(cut("edcba"), ["e", "d", "c", "b", "a"])
        self.assertEqual(cut("b" + "a" * 23), ["b"] + ["a"] * 23)
        self.assertEqual(cut("a" * 23 + "b"), ["a" * 23 + "b"])
        self.assertEqual(cut("ab" * 12), ["ab"] * 12)

    def test_parts_make_the_row_keen_and_none_greater_than_the_one_ahead(self):
        for row in WALKED:
            parts = cut(row)
            self.assertIs(parts.__class__, list)
            self.assertEqual("".join(parts), row)
            self.assertNotIn("", parts)
            self.assertTrue(all(is_keen(part) for part in parts), row)
            self.assertTrue(is_cut(parts), row)

    def test_the_one_way_there_is(self):
        for row in rows_of("ab", 8) + rows_of("abc", 6) + rows_of("abcde", 3):
            self.assertEqual([parts for parts in ways_to_cut(row) if is_cut(parts)], [cut(row)], row)

    def test_a_keen_row_is_one_part(self):
        for row in WALKED:
            self.assertEqual(cut(row) == [row], is_keen(row), row)


class SplitKeenTest(unittest.TestCase):
    def test_examples(self):
        self.assertEqual(split_keen("ab"), ("a", "b"))
        self.assertEqual(split_keen("aab"), ("a", "ab"))
        self.assertEqual(split_keen("abb"), ("ab", "b"))
        self.assertEqual(split_keen("aabb"), ("a", "abb"))
        self.assertEqual(split_keen("aabab"), ("aab", "ab"))
        self.assertEqual(split_keen("abac"), ("ab", "ac"))
        self.assertEqual(split_keen("abcde"), ("a", "bcde"))
        self.assertEqual(split_keen("a" * 23 + "b"), ("a", "a" * 22 + "b"))
        self.assertEqual(split_keen("a" + "b" * 23), ("a" + "b" * 22, "b"))

    def test_two_keen_parts(self):
        for row in KEEN + LONG_KEEN:
            if len(row) == 1:
                continue
            told = split_keen(row)
            self.assertIs(told.__class__, tuple)
            first, second = told
            self.assertEqual(first + second, row)
            self.assertTrue(is_keen_by_words(first) and is_keen_by_words(second), row)
            self.assertGreaterEqual(len(first), 1)
            self.assertLess(first, second)
            for place in range(1, len(first)):
                self.assertFalse(is_keen_by_words(row[place:]), row)
            self.assertEqual(told, split_by_words(row))

    def test_one_pearl_is_refused(self):
        for pearl in "abcde":
            check_refused(self, NoKeen, split_keen, pearl)


class BracketedTest(unittest.TestCase):
    def test_examples(self):
        self.assertEqual(bracketed("c"), "c")
        self.assertEqual(bracketed("ab"), "(ab)")
        self.assertEqual(bracketed("aab"), "(a(ab))")
        self.assertEqual(bracketed("abb"), "((ab)b)")
        self.assertEqual(bracketed("aabb"), "(a((ab)b))")
        self.assertEqual(bracketed("aabab"), "((a(ab))(ab))")
        self.assertEqual(bracketed("abcde"), "(a(b(c(de))))")

    def test_twenty_four_pearls(self):
        self.assertEqual(bracketed("a" * 23 + "b"), "(a" * 23 + "b" + ")" * 23)
        self.assertEqual(bracketed("a" + "b" * 23), "(" * 23 + "a" + "b)" * 23)

    def test_brackets_of_all_keen_rows(self):
        for row in KEEN + LONG_KEEN:
            told = bracketed(row)
            self.assertEqual(told, bracketed_by_words(row), row)
            self.assertEqual(told.replace("(", "").replace(")", ""), row)
            self.assertEqual(told.count("("), len(row) - 1)


class NoKeenTest(unittest.TestCase):
    def refused(self, thing):
        for call in (split_keen, bracketed):
            check_refused(self, NoKeen, call, thing)

    def test_rows_that_are_not_keen(self):
        for row in rows_of("abc", 6) + rows_of("abcde", 3) + LONG_ROWS + SCATTERED_ROWS:
            if not is_keen_by_words(row):
                self.refused(row)

    def test_no_rows(self):
        for thing in NO_ROWS + NO_TEXTS:
            self.refused(thing)

    def test_texts_that_would_be_keen_if_they_were_rows(self):
        for text in ("a" * 24 + "b", "ABC", "xyz", "abf", "a ~", "12", "(ab)", "", "a" * 100 + "b"):
            self.refused(text)

    def test_things_that_cannot_be_shown_or_compared(self):
        class Stubborn:
            def __eq__(self, other):
                raise RuntimeError("not compared")

            def __lt__(self, other):
                raise RuntimeError("not compared")

            def __len__(self):
                raise RuntimeError("not counted")

        for call in (split_keen, bracketed):
            with self.assertRaises(NoKeen):
                call(Stubborn())


class BeyondTheBoundTest(unittest.TestCase):
    """`is_keen` and `cut` refuse nothing: a length somewhat beyond the bound is answered all the same."""

    def test_more_than_twenty_four_pearls(self):
        self.assertIs(is_keen("a" * 25 + "b"), True)
        self.assertIs(is_keen("ab" * 13), False)
        self.assertEqual(cut("ab" * 13), ["ab"] * 13)

    def test_no_pearl(self):
        self.assertIs(is_keen(""), False)
        self.assertEqual(cut(""), [])


if __name__ == "__main__":
    unittest.main()

import functools
import unittest

from helper import LONG_ROWS, NO_ROWS, SCATTERED_ROWS, check_refused, is_keen_by_words, rows_of
from pearlhall.errors import NoBag, NoMix, NoRow
from pearlhall.mixing import mixed, mixed_bag, unmixed, unmixed_bag

WALKED = rows_of("ab", 8) + rows_of("abc", 6) + rows_of("abcde", 4) + LONG_ROWS + SCATTERED_ROWS
KEEN = sorted(row for row in rows_of("abc", 6) if is_keen_by_words(row))
NO_PLACES = [
    -1, -2, -24, -10 ** 400, 10 ** 400, 24, 25, True, False, None, 0.0, 1.0, 0.5, float("nan"), float("inf"), 0j,
    "", "0", "a", b"0", [], [0], (), (0,), {}, {0: 0}, set(), {0}, range(2), int, len, object(), Ellipsis,
]
LONG_BAGS = [
    ["a"] * 24,
    ["e"] * 24,
    ["ab"] * 12,
    ["a" * 23 + "b"],
    ["a" * 11 + "b"] * 2,
    ["aaaaaab", "aaaaab", "aaaab", "aaab", "ab"],
    ["a", "aab", "aabab", "aabab", "ab", "ab", "abb", "b", "b"],
    ["aab", "aabaabab", "aabab", "ab", "ab", "abb", "b"],
    ["a", "abcde", "b", "bcde", "c", "cde", "d", "de", "e"],
    ["ab", "ababb", "ababb", "abb", "ac", "ace"],
    ["a"] * 12 + ["b"] * 12,
]


def turned_by_each(row):
    return [row[number:] + row[:number] for number in range(len(row))]


def mixed_by_words(row):
    """The words of [10]."""
    rising = sorted(turned_by_each(row))
    return "".join(turn[-1] for turn in rising), rising.index(row)


def compared_endless(one, other):
    for place in range(len(one) * len(other)):
        left, right = one[place % len(one)], other[place % len(other)]
        if left != right:
            return -1 if left < right else 1
    return 0


def mixed_bag_by_words(bag):
    """The words of [11]."""
    turns = [turn for row in bag for turn in turned_by_each(row)]
    rising = sorted(turns, key=functools.cmp_to_key(compared_endless))
    return "".join(turn[-1] for turn in rising)


def is_bag_by_words(bag):
    if bag.__class__ is not list or not 1 <= len("".join(bag)) <= 24:
        return False
    return all(is_keen_by_words(row) for row in bag) and bag == sorted(bag)


def bags_of(keen, pearls):
    """All bags of rows from the rising list of keen ones, with at most so many pearls, the empty one too."""
    found = [[]]
    for place, row in enumerate(keen):
        if len(row) <= pearls:
            found.extend([[row] + rest for rest in bags_of(keen[place:], pearls - len(row))])
    return found


BAGS = [bag for bag in bags_of(KEEN, 6) if bag] + LONG_BAGS


class MixedTest(unittest.TestCase):
    def test_examples(self):
        self.assertEqual(mixed("a"), ("a", 0))
        self.assertEqual(mixed("ab"), ("ba", 0))
        self.assertEqual(mixed("ba"), ("ba", 1))
        self.assertEqual(mixed("aaa"), ("aaa", 0))
        self.assertEqual(mixed("abab"), ("bbaa", 0))
        self.assertEqual(mixed("baba"), ("bbaa", 2))
        self.assertEqual(mixed("abacaba"), ("bcabaaa", 2))
        self.assertEqual(mixed("edcba"), ("bcdea", 4))
        self.assertEqual(mixed("ab" * 12), ("b" * 12 + "a" * 12, 0))
        self.assertEqual(mixed("ba" * 12), ("b" * 12 + "a" * 12, 12))

    def test_by_the_documents_words(self):
        for row in WALKED:
            told = mixed(row)
            self.assertIs(told.__class__, tuple)
            self.assertIs(told[1].__class__, int)
            self.assertEqual(told, mixed_by_words(row), row)


class UnmixedTest(unittest.TestCase):
    def test_examples(self):
        self.assertEqual(unmixed("a", 0), "a")
        self.assertEqual(unmixed("ba", 0), "ab")
        self.assertEqual(unmixed("ba", 1), "ba")
        self.assertEqual(unmixed("bbaa", 2), "baba")
        self.assertEqual(unmixed("bcabaaa", 2), "abacaba")
        self.assertEqual(unmixed("e" * 24, 0), "e" * 24)

    def test_the_row_is_had_back(self):
        for row in WALKED:
            text, place = mixed_by_words(row)
            self.assertEqual(unmixed(text, place), row)

    def test_each_text_and_place_that_is_told_of_no_row(self):
        for colours, most in (("ab", 8), ("abc", 5), ("abcde", 3)):
            rows = rows_of(colours, most)
            told = {mixed_by_words(row): row for row in rows}
            for text in rows:
                for place in range(len(text)):
                    if (text, place) in told:
                        self.assertEqual(unmixed(text, place), told[(text, place)])
                    else:
                        check_refused(self, NoMix, unmixed, text, place)

    def test_refused_examples(self):
        for text, place in [("ab", 0), ("ab", 1), ("aa", 1), ("aaa", 2), ("bbaa", 1), ("bbaa", 3), ("aba", 0)]:
            check_refused(self, NoMix, unmixed, text, place)
        for place in range(1, 24):
            check_refused(self, NoMix, unmixed, "e" * 24, place)

    def test_places_below_nought_and_too_large(self):
        for row in rows_of("ab", 5) + LONG_ROWS:
            text = mixed_by_words(row)[0]
            for place in (-1, -len(text), -len(text) - 1, len(text), len(text) + 1, 2 * len(text), 10 ** 400):
                check_refused(self, NoMix, unmixed, text, place)

    def test_places_of_other_kinds(self):
        for text in ("a", "ba", "bbaa", "b" * 12 + "a" * 12):
            for place in NO_PLACES:
                check_refused(self, NoMix, unmixed, text, place)

    def test_true_and_false_are_no_places(self):
        self.assertEqual(unmixed("ba", 1), "ba")
        check_refused(self, NoMix, unmixed, "ba", True)
        check_refused(self, NoMix, unmixed, "ba", False)

    def test_texts_that_are_no_rows(self):
        for text in NO_ROWS:
            for place in (0, 1, -1, None, True, "0"):
                check_refused(self, NoMix, unmixed, text, place)

    def test_the_mix_of_what_is_no_row(self):
        for text in ("b" + "a" * 24, "e" * 25, "yx", "BA"):
            told, place = mixed_by_words(text)
            check_refused(self, NoMix, unmixed, told, place)


class MixedBagTest(unittest.TestCase):
    def test_examples(self):
        self.assertEqual(mixed_bag(["a"]), "a")
        self.assertEqual(mixed_bag(["a", "a"]), "aa")
        self.assertEqual(mixed_bag(["a", "b"]), "ab")
        self.assertEqual(mixed_bag(["ab"]), "ba")
        self.assertEqual(mixed_bag(["ab", "ab"]), "bbaa")
        self.assertEqual(mixed_bag(["a", "ab"]), "aba")
        self.assertEqual(mixed_bag(["ab", "b"]), "bab")
        self.assertEqual(mixed_bag(["aab", "ab"]), "babaa")
        self.assertEqual(mixed_bag(["ab", "abb"]), "bbaba")

    def test_by_the_documents_words(self):
        for bag in BAGS:
            told = mixed_bag(bag)
            self.assertIs(told.__class__, str)
            self.assertEqual(told, mixed_bag_by_words(bag), bag)

    def test_a_keen_row_by_itself_is_mixed_alike(self):
        for row in KEEN:
            self.assertEqual(mixed_bag([row]), mixed(row)[0])

    def test_the_bag_comes_back_of_its_mix_and_stays_as_it_was(self):
        for bag in BAGS:
            self.assertTrue(is_bag_by_words(bag), bag)
            handed_in = list(bag)
            text = mixed_bag(handed_in)
            self.assertEqual(handed_in, bag)
            back = unmixed_bag(text)
            self.assertEqual(back, bag)
            self.assertIsNot(back, handed_in)


class NoBagTest(unittest.TestCase):
    def refused(self, things):
        for thing in things:
            check_refused(self, NoBag, mixed_bag, thing)

    def test_no_list(self):
        self.refused([thing for thing in NO_ROWS if not isinstance(thing, list)])
        self.refused(["a", "ab", ("a",), ("a", "ab"), {"a": "ab"}, {"a"}, iter(["a"]), range(3)])

    def test_no_row_in_it(self):
        self.refused([[]])

    def test_what_is_no_row_in_it(self):
        for thing in NO_ROWS:
            self.refused([[thing], ["a", thing], [thing, "a"], ["a", thing, "b"]])

    def test_a_row_that_is_not_keen_in_it(self):
        for row in rows_of("ab", 5) + LONG_ROWS:
            if not is_keen_by_words(row):
                self.refused([[row], sorted(["a", row]), sorted([row, "b"])])

    def test_not_rising(self):
        self.refused([["b", "a"], ["ab", "a"], ["a", "b", "ab"], ["ab", "aab"], ["b", "ab", "b"], ["b", "b", "a"]])

    def test_more_than_twenty_four_pearls(self):
        self.refused([["a"] * 25, ["ab"] * 13, ["a", "a" * 23 + "b"], ["a" * 23 + "b", "b"], ["a" * 24 + "b"]])
        self.refused([["a"] * 1000, ["abcde"] * 5, ["a" * 12 + "b"] * 2])

    def test_a_list_that_holds_itself_or_lists(self):
        ring = ["a"]
        ring.append(ring)
        for bag in (ring, [["a"]], [["a"], ["b"]], [[]], [("a",)]):
            with self.assertRaises(NoBag):
                mixed_bag(bag)

    def test_a_refused_bag_stays_as_it_was(self):
        bag = ["b", "ab", ["c"], "ba"]
        check_refused(self, NoBag, mixed_bag, bag)
        self.assertEqual(bag, ["b", "ab", ["c"], "ba"])


class UnmixedBagTest(unittest.TestCase):
    def test_examples(self):
        self.assertEqual(unmixed_bag("a"), ["a"])
        self.assertEqual(unmixed_bag("ab"), ["a", "b"])
        self.assertEqual(unmixed_bag("ba"), ["ab"])
        self.assertEqual(unmixed_bag("aba"), ["a", "ab"])
        self.assertEqual(unmixed_bag("bbaa"), ["ab", "ab"])
        self.assertEqual(unmixed_bag("abcde"), ["a", "b", "c", "d", "e"])
        self.assertEqual(unmixed_bag("e" * 24), ["e"] * 24)

    def test_the_bag_of_each_text(self):
        for text in WALKED:
            bag = unmixed_bag(text)
            self.assertTrue(is_bag_by_words(bag), text)
            self.assertEqual(mixed_bag_by_words(bag), text)
            self.assertEqual(mixed_bag(bag), text)

    def test_just_one_bag(self):
        bags = [bag for bag in bags_of(KEEN, 5) if bag]
        texts = [mixed_bag(bag) for bag in bags]
        self.assertEqual(sorted(texts), sorted(rows_of("abc", 5)))

    def test_what_is_no_row(self):
        for thing in NO_ROWS + [["a", "ab"], ("a", 0)]:
            check_refused(self, NoRow, unmixed_bag, thing)


class BeyondTheBoundTest(unittest.TestCase):
    """`mixed` refuses nothing: a length somewhat beyond the bound is answered all the same."""

    def test_more_than_twenty_four_pearls(self):
        self.assertEqual(mixed("ba" * 13), ("b" * 13 + "a" * 13, 13))

    def test_no_pearl(self):
        self.assertEqual(mixed(""), ("", 0))


if __name__ == "__main__":
    unittest.main()

"""[1]: what holds over the whole program, and the interface's names and arguments."""

import inspect
import unittest

from helper import ROWS, check_refused
from pearlhall import beats, keen, mixing, rings, rows
from pearlhall.errors import NoBag, NoKeen, NoMix, NoRow, TooMany

ARGUMENTS = {
    rows.checked: ["row"],
    rows.turned: ["row", "number"],
    rows.turnings: ["row"],
    rows.head: ["row"],
    rows.root: ["row"],
    rows.mirrored: ["row"],
    rows.wreath: ["row"],
    beats.borders: ["row"],
    beats.beats: ["row"],
    beats.endless: ["one", "other"],
    keen.is_keen: ["row"],
    keen.cut: ["row"],
    keen.split_keen: ["row"],
    keen.bracketed: ["row"],
    rings.keen_rows: ["colours", "size"],
    rings.ring_of_all: ["colours", "size"],
    rings.count_keen: ["colours", "size"],
    rings.count_rings: ["colours", "size"],
    rings.count_wreaths: ["colours", "size"],
    mixing.mixed: ["row"],
    mixing.unmixed: ["text", "place"],
    mixing.mixed_bag: ["bag"],
    mixing.unmixed_bag: ["text"],
}

TAKE_KEEN_ROWS = [keen.split_keen, keen.bracketed]
TAKE_ANY_ROW = [
    call for call, names in ARGUMENTS.items() if names in (["row"], ["text"]) and call not in TAKE_KEEN_ROWS
]
TAKE_NUMBERS = [call for call, names in ARGUMENTS.items() if names == ["colours", "size"]]
NUMBERS = [(1, 1), (1, 8), (2, 3), (2, 8), (3, 4), (4, 4), (5, 1), (5, 3)]
LONGER_KEEN_ROWS = [row for row in ROWS if len(row) > 1 and keen.is_keen(row)]
BAGS = [["a"], ["a", "a", "ab"], ["ab", "ab", "b"], ["aab", "ab", "abb", "b"], ["abcde"]]

TELL_LISTS = [
    (call, [row]) for call in (rows.turnings, beats.borders, beats.beats, keen.cut, mixing.unmixed_bag) for row in ROWS
] + [(rings.keen_rows, list(numbers)) for numbers in NUMBERS]

REFUSED = [
    (NoRow, rows.checked, [""]),
    (NoRow, rows.checked, [["a"]]),
    (NoKeen, keen.split_keen, ["a"]),
    (NoKeen, keen.split_keen, [["ab"]]),
    (NoKeen, keen.bracketed, ["ba"]),
    (NoKeen, keen.bracketed, [{"a": "b"}]),
    (TooMany, rings.keen_rows, [5, 8]),
    (TooMany, rings.ring_of_all, [2, 9]),
    (NoMix, mixing.unmixed, ["ab", 0]),
    (NoMix, mixing.unmixed, [["b", "a"], [0]]),
    (NoMix, mixing.unmixed, ["ba", True]),
    (NoBag, mixing.mixed_bag, [["b", "a"]]),
    (NoBag, mixing.mixed_bag, [["a", ["b"]]]),
    (NoRow, mixing.unmixed_bag, [["a", "b"]]),
    (NoRow, mixing.unmixed_bag, [""]),
]


def fresh(row):
    """An equal text that is another object wherever Python makes one."""
    return "".join(list(row))


def all_answers():
    told = [call(fresh(row)) for call in TAKE_ANY_ROW for row in ROWS]
    told.extend([call(fresh(row)) for call in TAKE_KEEN_ROWS for row in LONGER_KEEN_ROWS])
    told.extend([call(colours, size) for call in TAKE_NUMBERS for colours, size in NUMBERS])
    told.extend([mixing.unmixed(fresh(mixing.mixed(row)[0]), mixing.mixed(row)[1]) for row in ROWS])
    told.extend([mixing.mixed_bag([fresh(row) for row in bag]) for bag in BAGS])
    told.extend([rows.turned(fresh(row), number) for row in ROWS for number in (-1, 0, 1, 25)])
    told.extend([beats.endless(fresh(row), other) for row in ROWS[:40] for other in ROWS[:40]])
    return told


def plain_kinds(value):
    """The kinds of a value and of all within it."""
    kinds = {value.__class__}
    if isinstance(value, (list, tuple)):
        for part in value:
            kinds |= plain_kinds(part)
    return kinds


class InterfaceTest(unittest.TestCase):
    def test_names_of_arguments(self):
        for call, names in ARGUMENTS.items():
            with self.subTest(call=call.__name__):
                self.assertEqual(list(inspect.signature(call).parameters), names)


class WholeProgramTest(unittest.TestCase):
    def test_equal_things_give_equal_answers(self):
        self.assertEqual(all_answers(), all_answers())

    def test_each_refusal_is_of_its_own_class_alone(self):
        for refusal, call, things in REFUSED:
            check_refused(self, refusal, call, *things)

    def test_a_refusal_leaves_nothing_behind(self):
        before = all_answers()
        for refusal, call, things in REFUSED:
            check_refused(self, refusal, call, *things)
        self.assertEqual(all_answers(), before)

    def test_lists_are_new_ones_each_time(self):
        for call, things in TELL_LISTS:
            first = call(*things)
            kept = list(first)
            second = call(*things)
            self.assertIsNot(first, second)
            first.append("spoiled")
            first.reverse()
            self.assertEqual(second, kept)
            self.assertEqual(call(*things), kept)

    def test_a_list_that_was_emptied_comes_again_as_it_was(self):
        for call, things in TELL_LISTS:
            told = call(*things)
            kept = list(told)
            told.clear()
            self.assertEqual(call(*things), kept)
        before = all_answers()
        for call, things in TELL_LISTS:
            call(*things).clear()
        self.assertEqual(all_answers(), before)

    def test_nothing_handed_in_is_changed(self):
        shown = repr(REFUSED + BAGS)
        for refusal, call, things in REFUSED:
            check_refused(self, refusal, call, *things)
        for bag in BAGS:
            mixing.mixed_bag(bag)
        self.assertEqual(repr(REFUSED + BAGS), shown)

    def test_true_and_false_are_no_numbers(self):
        for call in TAKE_ANY_ROW:
            wanted = {bool} if call == keen.is_keen else {int, str, list, tuple}
            for row in ROWS:
                self.assertLessEqual(plain_kinds(call(row)), wanted)
        for call in TAKE_NUMBERS:
            for colours, size in NUMBERS:
                self.assertLessEqual(plain_kinds(call(colours, size)), {int, str, list})
        for thing in (True, False):
            check_refused(self, NoRow, rows.checked, thing)
            check_refused(self, NoMix, mixing.unmixed, "ba", thing)

    def test_texts_stand_in_the_order_of_texts(self):
        self.assertEqual(rows.turnings("edcba"), ["aedcb", "baedc", "cbaed", "dcbae", "edcba"])


if __name__ == "__main__":
    unittest.main()

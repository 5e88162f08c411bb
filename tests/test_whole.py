"""[1]: what holds over the whole program, and the interface's names and arguments."""

import inspect
import unittest

from helper import ROWS
from pearlhall import beats, rows
from pearlhall.errors import NoRow

ARGUMENTS = {
    rows.checked: ["row"],
    rows.turned: ["row", "number"],
    rows.turnings: ["row"],
    rows.head: ["row"],
    rows.root: ["row"],
    rows.mirrored: ["row"],
    rows.wreath: ["row"],
    beats.borders: ["row"],
    beats.beats: ["row"],
    beats.endless: ["one", "other"],
}

TELL_LISTS = [rows.turnings, beats.borders, beats.beats]
TAKE_ONE_ROW = [call for call, names in ARGUMENTS.items() if names == ["row"]]


def fresh(row):
    """An equal text that is another object wherever Python makes one."""
    return "".join(list(row))


def all_answers():
    told = [call(fresh(row)) for call in TAKE_ONE_ROW for row in ROWS]
    told.extend([rows.turned(fresh(row), number) for row in ROWS for number in (-1, 0, 1, 25)])
    told.extend([beats.endless(fresh(row), other) for row in ROWS[:40] for other in ROWS[:40]])
    return told


def plain_kinds(value):
    """The kinds of a value and of all within it."""
    kinds = {value.__class__}
    if isinstance(value, (list, tuple)):
        for part in value:
            kinds |= plain_kinds(part)
    return kinds


class InterfaceTest(unittest.TestCase):
    def test_names_of_arguments(self):
        for call, names in ARGUMENTS.items():
            with self.subTest(call=call.__name__):
                self.assertEqual(list(inspect.signature(call).parameters), names)


class WholeProgramTest(unittest.TestCase):
    def test_equal_things_give_equal_answers(self):
        self.assertEqual(all_answers(), all_answers())

    def test_a_refusal_leaves_nothing_behind(self):
        before = all_answers()
        for thing in ("", "x", None, ["a"]):
            with self.assertRaises(NoRow):
                rows.checked(thing)
        self.assertEqual(all_answers(), before)

    def test_lists_are_new_ones_each_time(self):
        for call in TELL_LISTS:
            for row in ROWS:
                first = call(row)
                kept = list(first)
                second = call(row)
                self.assertIsNot(first, second)
                first.append("spoiled")
                first.reverse()
                self.assertEqual(second, kept)
                self.assertEqual(call(row), kept)

    def test_nothing_handed_in_is_changed(self):
        things = [["a", "b"], {"a": 1}, [["a"], []]]
        shown = repr(things)
        for thing in things:
            with self.assertRaises(NoRow):
                rows.checked(thing)
        self.assertEqual(repr(things), shown)

    def test_true_and_false_are_no_numbers(self):
        for answer in all_answers():
            self.assertLessEqual(plain_kinds(answer), {int, str, list, tuple})
        for thing in (True, False):
            with self.assertRaises(NoRow):
                rows.checked(thing)

    def test_texts_stand_in_the_order_of_texts(self):
        self.assertEqual(rows.turnings("edcba"), ["aedcb", "baedc", "cbaed", "dcbae", "edcba"])


if __name__ == "__main__":
    unittest.main()

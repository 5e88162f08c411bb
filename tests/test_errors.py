import unittest

from helper import REFUSALS
from pearlhall.errors import PearlError


class ErrorsTest(unittest.TestCase):
    def test_pearl_error_stands_under_value_error(self):
        self.assertEqual(PearlError.__bases__, (ValueError,))

    def test_each_refusal_stands_straight_under_pearl_error(self):
        for refusal in REFUSALS:
            with self.subTest(refusal=refusal.__name__):
                self.assertEqual(refusal.__bases__, (PearlError,))

    def test_no_refusal_stands_under_another(self):
        for one in REFUSALS:
            for other in REFUSALS:
                if one is not other:
                    self.assertFalse(issubclass(one, other), (one, other))

    def test_names(self):
        names = [refusal.__name__ for refusal in REFUSALS]
        self.assertEqual(names, ["NoRow", "NoKeen", "TooMany", "NoMix", "NoBag"])

    def test_taken_by_its_bases(self):
        for refusal in REFUSALS:
            for base in (refusal, PearlError, ValueError):
                with self.assertRaises(base):
                    raise refusal("words")


if __name__ == "__main__":
    unittest.main()

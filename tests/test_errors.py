import unittest

from cutless.errors import (
    CutlessError,
    NoCut,
    NoName,
    NoProof,
    NoRow,
    NoText,
    NotCleared,
    NotPlain,
    TooGreat,
)

REFUSALS = (NoProof, NoCut, NotCleared, NotPlain, TooGreat, NoText, NoName, NoRow)


class Errors(unittest.TestCase):
    def test_the_base_stands_straight_under_value_error(self):
        self.assertEqual(CutlessError.__bases__, (ValueError,))

    def test_each_refusal_stands_straight_under_the_base(self):
        for refusal in REFUSALS:
            with self.subTest(refusal=refusal.__name__):
                self.assertEqual(refusal.__bases__, (CutlessError,))

    def test_the_refusals_are_eight_different_classes(self):
        self.assertEqual(len(set(REFUSALS)), 8)

    def test_no_refusal_stands_under_another_one(self):
        for one in REFUSALS:
            for other in REFUSALS:
                if one is not other:
                    self.assertFalse(issubclass(one, other), (one, other))

    def test_each_has_the_name_of_the_interface(self):
        names = ["NoProof", "NoCut", "NotCleared", "NotPlain", "TooGreat", "NoText", "NoName", "NoRow"]
        self.assertEqual([refusal.__name__ for refusal in REFUSALS], names)

    def test_each_is_raised_with_words_and_taken_by_the_base(self):
        for refusal in REFUSALS:
            with self.subTest(refusal=refusal.__name__):
                with self.assertRaises(CutlessError) as taken:
                    raise refusal("words")
                self.assertEqual(str(taken.exception), "words")


if __name__ == "__main__":
    unittest.main()

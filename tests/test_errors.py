import copy
import unittest

from hookmill import errors
from hookmill.errors import BadKind, BadRow, Lacking, MillError, NoName, Twice

PLAIN = ["NoNet", "NoEnd", "NoRule", "TwoRules", "Uneven", "NoPair", "Stuck", "NoTerm", "Spent", "NoValue", "Unfit"]
KEEPING = ["BadRow", "NoName", "Twice", "BadKind", "Lacking"]


def classes():
    return [getattr(errors, name) for name in PLAIN + KEEPING]


class Standing(unittest.TestCase):
    def test_mill_error_stands_under_value_error(self):
        self.assertTrue(issubclass(MillError, ValueError))

    def test_each_stands_under_mill_error(self):
        for one in classes():
            with self.subTest(one=one.__name__):
                self.assertTrue(issubclass(one, MillError))
                self.assertIsNot(one, MillError)

    def test_none_stands_under_another(self):
        for one in classes():
            for other in classes():
                if one is not other:
                    with self.subTest(one=one.__name__, other=other.__name__):
                        self.assertFalse(issubclass(one, other))

    def test_all_names_are_unlike_classes(self):
        self.assertEqual(len(set(classes())), 16)


class Making(unittest.TestCase):
    def test_the_plain_ones_are_made_of_a_text(self):
        for name in PLAIN + ["MillError"]:
            with self.subTest(name=name):
                self.assertEqual(str(getattr(errors, name)("some words")), "some words")

    def test_bad_row_keeps_its_row(self):
        self.assertEqual(BadRow(7).row, 7)

    def test_these_keep_their_word(self):
        for one in (NoName, Twice, BadKind):
            with self.subTest(one=one.__name__):
                self.assertEqual(one("nat").word, "nat")
                self.assertEqual(one("").word, "")

    def test_lacking_keeps_taker_and_maker(self):
        error = Lacking("add", "zero")
        self.assertEqual((error.taker, error.maker), ("add", "zero"))

    def test_each_object_keeps_its_own(self):
        one = NoName("a")
        other = NoName("b")
        self.assertEqual((one.word, other.word), ("a", "b"))

    def test_a_copy_keeps_the_same(self):
        self.assertEqual(copy.copy(BadRow(7)).row, 7)
        self.assertEqual(copy.copy(Twice("nat")).word, "nat")
        again = copy.copy(Lacking("add", "zero"))
        self.assertEqual((again.taker, again.maker), ("add", "zero"))

    def test_each_is_taken_as_mill_error(self):
        for error in (BadRow(1), NoName("a"), Twice("a"), BadKind("a"), Lacking("a", "b")):
            with self.assertRaises(MillError):
                raise error


if __name__ == "__main__":
    unittest.main()

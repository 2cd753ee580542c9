import unittest

from rightname import errors
from rightname.errors import NoAct, NoText, RightError

NAMES = (
    "NoText", "NoAct", "NoDay", "NoNumber", "NoWord", "NoRank", "NoSheet",
    "NoEntry", "NoBook", "NoSorting", "NoPath", "Late", "NoRow",
)


class Classes(unittest.TestCase):
    def test_right_error_stands_under_value_error(self):
        self.assertEqual(RightError.__name__, "RightError")
        self.assertEqual(RightError.__bases__, (ValueError,))

    def test_each_class_is_there_and_stands_right_under_right_error(self):
        for name in NAMES:
            with self.subTest(name=name):
                kind = getattr(errors, name)
                self.assertEqual(kind.__name__, name)
                self.assertEqual(kind.__bases__, (RightError,))
                self.assertTrue(issubclass(kind, ValueError))

    def test_none_stands_under_another_one(self):
        for name in NAMES:
            for other in NAMES:
                if name != other:
                    with self.subTest(name=name, other=other):
                        self.assertFalse(issubclass(getattr(errors, name), getattr(errors, other)))

    def test_each_is_raised_with_words_and_taken_by_its_own_name_and_the_common_ones(self):
        for name in NAMES:
            kind = getattr(errors, name)
            for taken in (kind, RightError, ValueError):
                with self.subTest(name=name, taken=taken):
                    with self.assertRaises(taken) as caught:
                        raise kind("some words")
                    self.assertIs(type(caught.exception), kind)
                    self.assertEqual(str(caught.exception), "some words")


class Fields(unittest.TestCase):
    def test_no_text_has_a_row(self):
        self.assertEqual(NoText("some words").row, 0)
        self.assertEqual(NoText("some words", 7).row, 7)
        self.assertEqual(NoText("some words", row=8).row, 8)
        self.assertEqual(NoText(words="some words", row=9).row, 9)

    def test_no_act_has_a_place(self):
        self.assertEqual(NoAct("some words").place, 0)
        self.assertEqual(NoAct("some words", 7).place, 7)
        self.assertEqual(NoAct("some words", place=8).place, 8)
        self.assertEqual(NoAct(words="some words", place=9).place, 9)

    def test_the_words_stay_words_beside_a_field(self):
        self.assertEqual(str(NoText("some words", 7)), "some words")
        self.assertEqual(str(NoAct("some words", 7)), "some words")

    def test_each_object_has_a_field_of_its_own(self):
        first, second = NoText("a", 1), NoText("b", 2)
        self.assertEqual((first.row, second.row), (1, 2))
        first, second = NoAct("a", 1), NoAct("b", 2)
        self.assertEqual((first.place, second.place), (1, 2))


if __name__ == "__main__":
    unittest.main()

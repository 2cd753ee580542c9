import string
import unittest

from rightname.basics import RANKS, above, below, is_day, is_number, is_rank, is_word
from rightname.errors import NoRank
from tests.things import no_numbers, no_texts

NEAR_RANKS = (
    "", " ", "Genus", "GENUS", "genu", "genuss", " genus", "genus ", "genus\n", "\ngenus",
    "Species", "specie", "speciess", "species ", "Form", "for", "forms", "form\n", "forma",
    "genus species", "genusspecies", "family", "s", "g\u00e9nus", "None",
)


class Truths(unittest.TestCase):
    """Asks for True and False themselves: 1 or an empty text would not do."""

    def all_told(self, asked, things, told):
        for thing in things:
            with self.subTest(kind=type(thing), thing=object.__repr__(thing)):
                self.assertIs(asked(thing), told)


class Days(Truths):
    def test_days(self):
        self.all_told(is_day, [1, 2, 365, 999999, 10 ** 6], True)

    def test_numbers_that_are_no_days(self):
        self.all_told(is_day, [0, -1, -365, -10 ** 6, 10 ** 6 + 1, 10 ** 9, 10 ** 30, -10 ** 30], False)

    def test_other_things_are_no_days(self):
        self.all_told(is_day, no_numbers() + [None], False)


class Numbers(Truths):
    def test_numbers(self):
        self.all_told(is_number, [1, 2, 10 ** 6, 10 ** 6 + 1, 10 ** 9 - 1, 10 ** 9], True)

    def test_numbers_out_of_bounds(self):
        self.all_told(is_number, [0, -1, -10 ** 9, 10 ** 9 + 1, 10 ** 12, 10 ** 30, -10 ** 30], False)

    def test_other_things_are_no_numbers(self):
        self.all_told(is_number, no_numbers() + [None], False)


class Words(Truths):
    def test_each_small_letter_is_a_word(self):
        self.all_told(is_word, list(string.ascii_lowercase), True)

    def test_lengths(self):
        self.all_told(is_word, ["a" * length for length in range(1, 13)], True)
        self.all_told(is_word, ["", "a" * 13, "a" * 14, "z" * 20000], False)

    def test_words_of_all_letters(self):
        self.all_told(is_word, ["abcdefghijkl", "opqrstuvwxyz", "mnm", "rosa", "canina", "genus"], True)

    def test_another_sign_at_any_place_is_none(self):
        signs = [chr(code) for code in range(128) if chr(code) not in string.ascii_lowercase]
        signs += ["\u00e9", "\u00df", "\u03b1", "\u0430", "\uff41", "\u00aa", "\u2028", "\U0001d41a"]
        for sign in signs:
            self.all_told(is_word, [sign, sign + "rosa", "ro" + sign + "sa", "rosa" + sign], False)
            self.all_told(is_word, [sign + "a" * 11, "a" * 11 + sign, sign * 12], False)

    def test_blanks_and_line_ends_about_a_word_are_none(self):
        self.all_told(is_word, ["rosa\n", "\nrosa", "rosa ", " rosa", "rosa\t", "rosa\r\n", "rosa canina"], False)

    def test_other_things_are_no_words(self):
        self.all_told(is_word, no_texts() + [None], False)


class Ranks(Truths):
    def test_the_tuple(self):
        self.assertIs(type(RANKS), tuple)
        self.assertEqual(RANKS, ("genus", "species", "form"))

    def test_the_three_ranks(self):
        self.all_told(is_rank, ["genus", "species", "form"], True)

    def test_texts_near_to_them(self):
        self.all_told(is_rank, NEAR_RANKS, False)

    def test_other_things_are_no_ranks(self):
        self.all_told(is_rank, no_texts() + [None], False)

    def test_above(self):
        self.assertIsNone(above("genus"))
        self.assertEqual(above("species"), "genus")
        self.assertEqual(above("form"), "species")

    def test_below(self):
        self.assertEqual(below("genus"), "species")
        self.assertEqual(below("species"), "form")
        self.assertIsNone(below("form"))

    def test_what_is_no_rank_is_refused(self):
        for thing in list(NEAR_RANKS) + no_texts() + [None]:
            for asked in (above, below):
                with self.subTest(asked=asked.__name__, thing=object.__repr__(thing)):
                    with self.assertRaises(NoRank) as caught:
                        asked(thing)
                    self.assertIs(type(caught.exception), NoRank)


class NothingIsChanged(unittest.TestCase):
    def test_what_is_asked_about_stays_as_it_was(self):
        for asked in (is_day, is_number, is_word, is_rank):
            things = [1, "genus", ["a"]]
            table = {"genus": [1]}
            asked(things)
            asked(table)
            self.assertEqual(things, [1, "genus", ["a"]])
            self.assertEqual(table, {"genus": [1]})

    def test_what_was_refused_changes_no_answer(self):
        for asked in (above, below):
            with self.assertRaises(NoRank):
                asked("family")
        self.assertEqual(RANKS, ("genus", "species", "form"))
        self.assertEqual([above(rank) for rank in RANKS], [None, "genus", "species"])
        self.assertEqual([below(rank) for rank in RANKS], ["species", "form", None])


if __name__ == "__main__":
    unittest.main()

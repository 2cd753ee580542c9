import random
import unittest

from rightname.entries import Entry, same_book
from rightname.errors import NoText
from rightname.reader import read, read_row, whole_of
from rightname.writer import entry_row, written
from tests.draws import drawn_book
from tests.makers import Refusing, fields, genus, moved, species
from tests.test_writer import ROWS
from tests.things import no_texts

GENUS = "1 2 genus rosa tied 3"
SPECIES = "1 2 species alba under 3 tied 4"
BASED = "1 2 form alba under 3 of 4"
GOOD = (GENUS, SPECIES, BASED, GENUS + " bare", SPECIES + " bare")
NOUGHT_TO_NINE = "0123456789"


def as_described(book):
    """The same book as it is read back: entries with a base are described."""
    return [
        entry if entry.base is None else Entry(*fields(entry)[:7], True)
        for entry in book
    ]


def bad_rows():
    """Texts near to rows that are none."""
    found = ["", " ", "\n", "\t", "bare", "genus", "of", "1", "a"]
    for row in GOOD:
        words = row.split(" ")
        found += [" " + row, row + " ", "\t" + row, row + "\t", row + "\n", "\n" + row, row + "\r", row + "\n" + row]
        for at in range(len(words)):
            ahead, behind = " ".join(words[:at]), " ".join(words[at:])
            if at:
                found += [ahead + gap + behind for gap in ("  ", "\t", " \t", "", "\n", "_", ",")]
                found.append(ahead)
            found.append(" ".join(words[:at] + words[at + 1:]))
            found.append(" ".join(words[:at] + ["rosa"] + words[at:]))
            found.append(" ".join(words[:at] + ["1"] + words[at:]))
            found.append(" ".join(words[:at] + [words[at].upper() + "A"] + words[at + 1:]))
            if words[at].isdigit():
                bads = ["0", "00", "01", "-1", "+1", "1.0", "1_0", "x", "", "1x", "x1", "1000000001", "9" * 30, "9" * 5000]
                if at == 0:
                    bads.append("1000001")
                found += [" ".join(words[:at] + [bad] + words[at + 1:]) for bad in bads]
        found += [row + " x", row + " bare bare", row + " tied 9", row + " of 9", row + " under 9"]
    # Taking bare away, or the word ahead of it, leaves rows that are good.
    found = [row for row in found if row not in GOOD]
    return found + [
        "1 2 genus rosa under 1 tied 3", "1 2 genus rosa of 3", "1 2 genus rosa under 1 of 3",
        "1 2 species alba tied 4", "1 2 species alba of 4", "1 2 form alba tied 4", "1 2 form alba tied 4 bare",
        BASED + " bare", "1 2 species alba under 3 of 4 bare",
        "1 2 species alba under 3", "1 2 species alba tied 4 under 3", "1 2 species alba under 3 tied 4 of 5",
        "1 2 family alba under 3 tied 4", "1 2 Genus rosa tied 3", "1 2 GENUS rosa tied 3", "1 2 genera rosa tied 3",
        "1 2 genus Rosa tied 3", "1 2 genus aaaaaaaaaaaaa tied 3", "1 2 genus ros1 tied 3", "1 2 genus  tied 3",
        "1 2 genus rosa tie 3", "1 2 genus rosa Tied 3", "1 2 species alba Under 3 tied 4", "1 2 form alba over 3 of 4",
        "2 genus rosa tied 3", "1 genus rosa tied 3", "1 2 rosa genus tied 3", "genus 1 2 rosa tied 3",
        "1 2 genus rosa tied 3 Bare", "1 2 genus rosa bare tied 3", "1 2 genus bare", "bare 1 2 genus rosa tied 3",
    ]


class Wholes(unittest.TestCase):
    def test_all_up_to_some_hundred(self):
        for number in range(300):
            self.assertEqual(whole_of(str(number), 1000), number)
            self.assertIs(type(whole_of(str(number), 1000)), int)

    def test_the_most_itself_and_one_more(self):
        for most in (0, 1, 9, 10, 99, 100, 101, 10 ** 6, 10 ** 9, 10 ** 12 - 1, 10 ** 12):
            with self.subTest(most=most):
                self.assertEqual(whole_of(str(most), most), most)
                self.assertIsNone(whole_of(str(most + 1), most))
                self.assertEqual(whole_of("0", most), 0)
                if most:
                    self.assertEqual(whole_of(str(most - 1), most), most - 1)
                    self.assertEqual(whole_of("1", most), 1)

    def test_a_most_of_nought(self):
        self.assertEqual(whole_of("0", 0), 0)
        for word in ("1", "9", "00", "10", ""):
            self.assertIsNone(whole_of(word, 0))

    def test_noughts_ahead(self):
        for word in ("00", "000", "01", "007", "010", "0" * 13, "0" * 12 + "1", "0" * 5000):
            self.assertIsNone(whole_of(word, 10 ** 12))

    def test_the_text_without_signs(self):
        for most in (0, 1, 10 ** 12):
            self.assertIsNone(whole_of("", most))

    def test_signs_that_are_no_figures_at_any_place(self):
        signs = [chr(code) for code in range(128) if chr(code) not in NOUGHT_TO_NINE]
        signs += ["\u00b2", "\u0663", "\uff11", "\u2160"]
        for sign in signs:
            for word in (sign, sign + "12", "1" + sign + "2", "12" + sign, sign * 3):
                self.assertIsNone(whole_of(word, 10 ** 12), repr(word))

    def test_things_that_are_no_texts(self):
        for thing in no_texts() + [None]:
            self.assertIsNone(whole_of(thing, 10 ** 12))

    def test_far_too_long_ones(self):
        for length in (14, 30, 4300, 4301, 20000):
            self.assertIsNone(whole_of("9" * length, 10 ** 12))


class OneRow(unittest.TestCase):
    def test_each_sort(self):
        for entry, row in ROWS:
            with self.subTest(row=row):
                self.assertIsInstance(read_row(row), Entry)
                self.assertEqual(fields(read_row(row)), fields(entry))

    def test_one_with_a_base_is_read_as_described(self):
        told = moved(4, 12, "species", "canina", 3, 2, described=False)
        self.assertIs(read_row(entry_row(told)).described, True)

    def test_bare_and_not(self):
        self.assertIs(read_row(GENUS).described, True)
        self.assertIs(read_row(GENUS + " bare").described, False)

    def test_words_of_the_row_as_a_name(self):
        for word in ("genus", "under", "tied", "of", "bare"):
            told = species(2, 1, word, 3, 4)
            self.assertEqual(fields(read_row(entry_row(told))), fields(told))
            told = genus(2, 1, word, 4, described=False)
            self.assertEqual(fields(read_row(entry_row(told))), fields(told))

    def test_rows_that_are_none(self):
        for row in bad_rows():
            with self.subTest(row=row[:80]):
                self.assertIsNone(read_row(row))

    def test_things_that_are_no_texts(self):
        for thing in no_texts() + [None, [GENUS], GENUS.split(" "), GENUS.encode(), genus(1, 1)]:
            with self.subTest(thing=object.__repr__(thing)):
                self.assertIsNone(read_row(thing))

    def test_what_is_read_is_just_what_is_written(self):
        """Rows put together of likely words: each is read or not, and what is read is written so."""
        chance = random.Random(8)
        words = ["1", "2", "0", "01", "genus", "species", "form", "rosa", "under", "tied", "of", "bare", ""]
        count = 0
        for round_ in range(20000):
            base = chance.choice(GOOD + (SPECIES, BASED)).split(" ")
            for change in range(chance.randint(0, 2)):
                at = chance.randrange(len(base))
                base[at:at + chance.choice((0, 1, 1))] = [chance.choice(words)] * chance.choice((0, 1, 1))
                base = base or [""]
            row = " ".join(base)
            entry = read_row(row)
            if entry is not None:
                count += 1
                self.assertEqual(entry_row(entry), row)
        self.assertGreater(count, 2000)


class Books(Refusing):
    def no_text(self, text, row):
        told = self.refused(NoText, read, text)
        self.assertEqual(told.row, row)

    def test_the_text_without_signs(self):
        self.assertEqual(read(""), [])
        self.assertIs(type(read("")), list)

    def test_one_and_several_rows(self):
        self.assertEqual([fields(entry) for entry in read(GENUS)], [fields(genus(2, 1, "rosa", 3))])
        book = read("1 3 genus rosa tied 7\n1 9 species alba under 3 tied 8 bare\n5 2 form c under 9 of 3")
        told = [genus(3, 1, "rosa", 7), species(9, 1, "alba", 3, 8, described=False), moved(2, 5, "form", "c", 9, 3)]
        self.assertTrue(same_book(book, told))

    def test_what_is_written_is_read_as_the_same_book(self):
        chance = random.Random(80)
        bare = based = 0
        for round_ in range(200):
            book = drawn_book(chance, chance.randint(0, 30))
            self.assertTrue(same_book(read(written(book)), as_described(book)))
            self.assertEqual(written(read(written(book))), written(book))
            bare += written(book).count(" bare")
            based += written(book).count(" of ")
        self.assertGreater(min(bare, based), 100)

    def test_a_line_end_behind_the_last_row(self):
        self.no_text(GENUS + "\n", 1)
        self.no_text("1 1 genus a tied 1\n1 2 genus b tied 1\n", 2)

    def test_rows_without_signs(self):
        self.no_text("\n", 0)
        self.no_text("\n\n", 0)
        self.no_text("\n" + GENUS, 0)
        self.no_text("1 1 genus a tied 1\n\n1 2 genus b tied 1", 1)

    def test_a_bad_row_at_each_place(self):
        rows = [f"1 {number} genus a tied 1" for number in range(1, 6)]
        for bad in bad_rows():
            if "\n" in bad or bad == "":
                continue
            for at in (0, 2, 4):
                self.no_text("\n".join(rows[:at] + [bad] + rows[at + 1:]), at)
            self.no_text(bad, 0)

    def test_the_first_bad_row_is_told(self):
        self.no_text("1 1 genus a tied 1\nx\ny\nz", 1)
        self.no_text("1 1 genus a tied 1\n1 1 genus a tied 1\nx", 1)
        self.no_text("2 1 genus a tied 1\n1 2 genus a tied 1\nx", 1)

    def test_rows_that_stand_not_behind_the_one_ahead(self):
        self.no_text("2 1 genus a tied 1\n1 2 genus b tied 1", 1)
        self.no_text("1 2 genus a tied 1\n1 1 genus b tied 1", 1)
        self.no_text("1 1 genus a tied 1\n3 2 genus b tied 1\n2 3 genus c tied 1\n3 4 genus c tied 1", 2)

    def test_rows_with_a_number_that_is_there(self):
        self.no_text("1 1 genus a tied 1\n1 1 genus a tied 1", 1)
        self.no_text("1 1 genus a tied 1\n2 1 genus b tied 1", 1)
        self.no_text("1 1 genus a tied 1\n1 2 genus b tied 1\n2 3 genus c tied 1\n2 1 genus c tied 1", 3)

    def test_other_line_ends(self):
        self.no_text("1 1 genus a tied 1\r\n1 2 genus b tied 1", 0)
        for end in ("\r", "\v", "\f", "\x1c", "\x1e"):
            self.no_text("1 1 genus a tied 1" + end + "1 2 genus b tied 1", 0)

    def test_entries_that_are_barred_are_read_too(self):
        self.assertEqual(len(read("1 1 species a under 9 of 8\n1 2 form a under 2 tied 1 bare")), 2)

    def test_what_is_no_text(self):
        for thing in no_texts() + [None, [GENUS], GENUS.encode(), genus(1, 1), [genus(1, 1)]]:
            self.no_text(thing, 0)

    def test_new_lists(self):
        first = read(GENUS)
        first.clear()
        self.assertEqual(len(read(GENUS)), 1)

    def test_a_list_that_was_refused_stays_as_it_was(self):
        things = [GENUS]
        for asked in (read_row, read):
            try:
                asked(things)
            except NoText:
                pass
            self.assertEqual(things, [GENUS])


if __name__ == "__main__":
    unittest.main()

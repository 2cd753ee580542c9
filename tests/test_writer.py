import unittest

from rightname.entries import Entry
from rightname.errors import NoBook
from rightname.writer import entry_row, written
from tests.makers import Refusing, fields, form, genus, moved, no_books, species

MOST = 10 ** 9

# Entries of each sort beside their rows.
ROWS = (
    (genus(1, 10, "rosa", 100), "10 1 genus rosa tied 100"),
    (genus(1, 10, "rosa", 100, described=False), "10 1 genus rosa tied 100 bare"),
    (species(2, 11, "canina", 1, 101), "11 2 species canina under 1 tied 101"),
    (species(2, 11, "canina", 1, 101, described=False), "11 2 species canina under 1 tied 101 bare"),
    (moved(4, 12, "species", "canina", 3, 2), "12 4 species canina under 3 of 2"),
    (form(5, 13, "alba", 2, 102), "13 5 form alba under 2 tied 102"),
    (form(5, 13, "alba", 2, 102, described=False), "13 5 form alba under 2 tied 102 bare"),
    (moved(6, 14, "form", "alba", 4, 5), "14 6 form alba under 4 of 5"),
    (genus(1, 1, "a", 1), "1 1 genus a tied 1"),
    (genus(MOST, 10 ** 6, "z" * 12, MOST), "1000000 1000000000 genus zzzzzzzzzzzz tied 1000000000"),
    (species(1, 1, "a", 1, 1), "1 1 species a under 1 tied 1"),
    (
        Entry(MOST, 10 ** 6, "form", "genus", MOST, MOST),
        "1000000 1000000000 form genus under 1000000000 tied 1000000000",
    ),
    (
        Entry(MOST, 10 ** 6, "species", "bare", MOST, None, MOST),
        "1000000 1000000000 species bare under 1000000000 of 1000000000",
    ),
)


class Rows(unittest.TestCase):
    def test_each_sort(self):
        for entry, row in ROWS:
            with self.subTest(row=row):
                self.assertEqual(entry_row(entry), row)

    def test_one_with_a_base_that_was_not_described_is_not_bare(self):
        for rank in ("species", "form"):
            told = moved(4, 12, rank, "canina", 3, 2, described=False)
            self.assertEqual(entry_row(told), f"12 4 {rank} canina under 3 of 2")

    def test_the_entry_stays_as_it_was(self):
        for entry, row in ROWS:
            kept = fields(entry)
            entry_row(entry)
            self.assertEqual(fields(entry), kept)


class Books(Refusing):
    def test_the_empty_book(self):
        self.assertEqual(written([]), "")

    def test_one_entry(self):
        for entry, row in ROWS:
            self.assertEqual(written([entry]), row)

    def test_several(self):
        book = [genus(3, 1, "rosa", 7), species(9, 1, "alba", 3, 8, described=False), moved(2, 5, "form", "c", 9, 3)]
        self.assertEqual(
            written(book),
            "1 3 genus rosa tied 7\n1 9 species alba under 3 tied 8 bare\n5 2 form c under 9 of 3")

    def test_what_is_no_book(self):
        for thing in no_books():
            self.refused(NoBook, written, thing)

    def test_the_book_stays_as_it_was(self):
        book = [genus(3, 1, "rosa", 7), species(9, 1, "alba", 3, 8)]
        entries, kept = list(book), [fields(entry) for entry in book]
        written(book)
        self.assertEqual(book, entries)
        self.assertEqual([fields(entry) for entry in book], kept)


if __name__ == "__main__":
    unittest.main()

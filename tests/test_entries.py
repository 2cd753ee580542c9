import unittest

from rightname.entries import Entry, ahead, book_list, same_book
from rightname.errors import NoBook, NoDay, NoEntry, NoNumber, NoRank, NoWord
from tests.makers import FIELDS, Refusing, bad_books, fields, genus
from tests.things import Balks, no_lists, no_numbers, no_texts

BAD_NUMBERS = [0, -1, 10 ** 9 + 1, 10 ** 30, -10 ** 30]
BAD_DAYS = [0, -1, 10 ** 6 + 1, 10 ** 9, 10 ** 30]
BAD_RANKS = ["", "Genus", "genus ", "family", "forms"]
BAD_WORDS = ["", "Rosa", "rosa ", "rosa\n", "ro sa", "rosa1", "a" * 13]

# An entry of each sort that there is, by its fields in order.
SORTS = (
    (1, 1, "genus", "rosa", None, 5, None, True),
    (2, 1, "species", "canina", 1, 6, None, True),
    (3, 1, "species", "canina", 1, None, 2, True),
    (4, 1, "form", "alba", 2, 7, None, True),
    (5, 1, "form", "alba", 3, None, 4, True),
)


class Made(unittest.TestCase):
    def test_all_fields_of_each_sort(self):
        for told in SORTS:
            for described in (True, False):
                with self.subTest(told=told, described=described):
                    entry = Entry(*told[:7], described)
                    self.assertEqual(fields(entry), told[:7] + (described,))
                    self.assertIs(entry.described, described)

    def test_all_fields_by_their_names(self):
        for told in SORTS:
            with self.subTest(told=told):
                self.assertEqual(fields(Entry(**dict(zip(FIELDS, told)))), told)

    def test_the_defaults(self):
        entry = Entry(1, 2, "genus", "rosa", sheet=3)
        self.assertEqual(fields(entry), (1, 2, "genus", "rosa", None, 3, None, True))
        entry = Entry(4, 5, "species", "canina", 1, 6)
        self.assertEqual(fields(entry), (4, 5, "species", "canina", 1, 6, None, True))
        entry = Entry(7, 8, "form", "alba", 4, base=6)
        self.assertEqual(fields(entry), (7, 8, "form", "alba", 4, None, 6, True))

    def test_the_ends_of_each_bound(self):
        most = 10 ** 9
        for told in (
            (1, 1, "genus", "a", None, 1, None, True),
            (most, 10 ** 6, "genus", "z" * 12, None, most, None, False),
            (1, 1, "species", "a", 1, 1, None, True),
            (most, 10 ** 6, "species", "z" * 12, most, most, None, False),
            (1, 1, "form", "a", 1, None, 1, True),
            (most, 10 ** 6, "form", "z" * 12, most, None, most, False),
        ):
            with self.subTest(told=told):
                self.assertEqual(fields(Entry(*told)), told)

    def test_numbers_that_lead_to_no_entry_are_none_of_its_affair(self):
        told = (2, 1, "species", "canina", 2, None, 2, True)
        self.assertEqual(fields(Entry(*told)), told)

    def test_each_object_has_fields_of_its_own(self):
        made = [Entry(*told) for told in SORTS]
        self.assertEqual([fields(entry) for entry in made], list(SORTS))


class MadeOfBadParts(Refusing):
    def with_each_sort(self, kind, name, things):
        for told in SORTS:
            for thing in things:
                self.refused(kind, Entry, **{**dict(zip(FIELDS, told)), name: thing})

    def test_a_bad_number(self):
        self.with_each_sort(NoNumber, "number", BAD_NUMBERS + no_numbers() + [None])

    def test_a_bad_day(self):
        self.with_each_sort(NoDay, "day", BAD_DAYS + no_numbers() + [None])

    def test_a_bad_rank(self):
        self.with_each_sort(NoRank, "rank", BAD_RANKS + no_texts() + [None])

    def test_a_bad_word(self):
        self.with_each_sort(NoWord, "word", BAD_WORDS + no_texts() + [None])

    def test_an_under_that_is_no_number(self):
        self.with_each_sort(NoEntry, "under", BAD_NUMBERS + no_numbers())

    def test_a_sheet_that_is_no_number(self):
        self.with_each_sort(NoEntry, "sheet", BAD_NUMBERS + no_numbers())

    def test_a_base_that_is_no_number(self):
        self.with_each_sort(NoEntry, "base", BAD_NUMBERS + no_numbers())

    def test_a_genus_under_something(self):
        self.refused(NoEntry, Entry, 2, 1, "genus", "rosa", 1, 5)
        self.refused(NoEntry, Entry, 2, 1, "genus", "rosa", 10 ** 9, 5)

    def test_a_species_or_form_under_nothing(self):
        for rank in ("species", "form"):
            self.refused(NoEntry, Entry, 2, 1, rank, "alba", None, 5)
            self.refused(NoEntry, Entry, 2, 1, rank, "alba", None, None, 1)
            self.refused(NoEntry, Entry, 2, 1, rank, "alba", sheet=5)

    def test_a_genus_with_a_base(self):
        self.refused(NoEntry, Entry, 2, 1, "genus", "rosa", None, None, 1)
        self.refused(NoEntry, Entry, 2, 1, "genus", "rosa", None, 5, 1)

    def test_both_a_sheet_and_a_base(self):
        for rank in ("species", "form"):
            self.refused(NoEntry, Entry, 3, 1, rank, "alba", 1, 5, 2)

    def test_neither_a_sheet_nor_a_base(self):
        self.refused(NoEntry, Entry, 1, 1, "genus", "rosa")
        self.refused(NoEntry, Entry, 1, 1, "genus", "rosa", None, None, None, False)
        for rank in ("species", "form"):
            self.refused(NoEntry, Entry, 3, 1, rank, "alba", 1)
            self.refused(NoEntry, Entry, 3, 1, rank, "alba", 1, None, None, False)

    def test_the_first_bad_part_is_told(self):
        good = (1, 1, "genus", "rosa", None, 5)
        bad = (0, 0, "family", "Rosa", 0, 0)
        kinds = (NoNumber, NoDay, NoRank, NoWord, NoEntry, NoEntry)
        # Each choice of bad parts among good ones, not just a bad tail.
        for choice in range(1, 2 ** len(good)):
            parts = [bad[at] if choice >> at & 1 else good[at] for at in range(len(good))]
            first = min([at for at in range(len(good)) if choice >> at & 1])
            self.refused(kinds[first], Entry, *parts)

    def test_the_first_bad_part_is_told_of_other_kinds_too(self):
        odd = Balks()
        self.refused(NoNumber, Entry, odd, odd, odd, odd, odd, odd, odd)
        self.refused(NoDay, Entry, 1, odd, odd, odd, odd, odd, odd)
        self.refused(NoRank, Entry, 1, 1, odd, odd, odd, odd, odd)
        for rank in ("genus", "species", "form"):
            self.refused(NoWord, Entry, 1, 1, rank, odd, odd, odd, odd)
            self.refused(NoEntry, Entry, 1, 1, rank, "rosa", odd, odd, odd)


class Ahead(unittest.TestCase):
    def told(self, one, other, truth):
        with self.subTest(one=fields(one), other=fields(other)):
            self.assertIs(ahead(one, other), truth)

    def test_days_unlike(self):
        for first, second in ((1, 2), (2, 1), (9, 10), (10 ** 9, 1), (10, 9)):
            self.told(genus(first, 3), genus(second, 4), True)
            self.told(genus(second, 4), genus(first, 3), False)
        self.told(genus(2, 1), genus(1, 10 ** 6), True)
        self.told(genus(1, 10 ** 6), genus(2, 1), False)
        self.told(genus(2, 9), genus(1, 10), True)

    def test_one_day_and_numbers_unlike(self):
        for first, second in ((1, 2), (9, 10), (1, 10 ** 9)):
            self.told(genus(first, 3), genus(second, 3), True)
            self.told(genus(second, 3), genus(first, 3), False)

    def test_one_and_itself(self):
        one = genus(1, 1)
        self.told(one, one, False)
        self.told(one, genus(1, 1), False)

    def test_nothing_but_day_and_number_counts(self):
        made = [Entry(*told) for told in SORTS]
        for at, one in enumerate(made):
            for place, other in enumerate(made):
                self.told(one, other, at < place)
        self.told(genus(1, 1, "z"), genus(2, 1, "a"), True)
        self.told(genus(2, 1, "a"), genus(1, 1, "z"), False)

    def test_entries_stay_as_they_were(self):
        one, other = Entry(*SORTS[0]), Entry(*SORTS[4])
        ahead(one, other)
        self.assertEqual((fields(one), fields(other)), (SORTS[0], SORTS[4]))


def good_books():
    return [
        [],
        [genus(7, 3)],
        [genus(1, 3), genus(2, 3), genus(10, 3)],
        [genus(3, 1), genus(2, 2), genus(1, 3)],
        [genus(5, 1), genus(9, 1), genus(1, 2), genus(6, 2), genus(2, 10 ** 6)],
        [Entry(*told) for told in SORTS],
    ]


class LooksLikeAnEntry:
    def __init__(self):
        for name, value in zip(FIELDS, SORTS[0]):
            setattr(self, name, value)


class BookList(Refusing):
    def test_good_books(self):
        for book in good_books():
            with self.subTest(book=[fields(entry) for entry in book]):
                told = book_list(book)
                self.assertIs(type(told), list)
                self.assertEqual([fields(entry) for entry in told], [fields(entry) for entry in book])

    def test_a_new_list_and_the_other_one_as_it_was(self):
        for book in good_books():
            entries = list(book)
            kept = [fields(entry) for entry in book]
            told = book_list(book)
            self.assertIsNot(told, book)
            self.assertIsNot(told, book_list(book))
            self.assertEqual(len(book), len(entries))
            self.assertTrue(all(one is other for one, other in zip(book, entries)))
            self.assertEqual([fields(entry) for entry in book], kept)

    def test_a_list_changed_behind_the_call(self):
        for book in good_books():
            kept = [fields(entry) for entry in book]
            told = book_list(book)
            book.append(genus(10 ** 9, 10 ** 6))
            self.assertEqual([fields(entry) for entry in told], kept)
            book.clear()
            self.assertEqual([fields(entry) for entry in told], kept)

    def test_what_is_told_is_the_askers_own(self):
        for book in good_books():
            kept = [fields(entry) for entry in book]
            told = book_list(book)
            told.append(genus(10 ** 9, 10 ** 6))
            told.reverse()
            self.assertEqual([fields(entry) for entry in book], kept)
            self.assertEqual([fields(entry) for entry in book_list(book)], kept)

    def test_how_entries_come_out_is_not_asked(self):
        stray = Entry(2, 1, "species", "canina", 9, None, 8, False)
        self.assertEqual(book_list([stray]), [stray])

    def test_many_entries_are_no_refusal(self):
        book = [genus(number, 1 + number // 3) for number in range(1, 301)]
        self.assertEqual(book_list(book), book)

    def test_what_is_no_list(self):
        for thing in no_lists() + [genus(1, 1), (genus(1, 1),), {1: genus(1, 1)}]:
            self.refused(NoBook, book_list, thing)

    def test_what_is_no_book(self):
        for thing in bad_books() + [[LooksLikeAnEntry()]]:
            self.refused(NoBook, book_list, thing)

    def test_a_refused_list_stays_as_it_was(self):
        for thing in bad_books():
            kept = list(thing)
            with self.assertRaises(NoBook):
                book_list(thing)
            self.assertEqual(len(thing), len(kept))
            self.assertTrue(all(one is other for one, other in zip(thing, kept)))


class SameBook(Refusing):
    def told(self, one, other, truth):
        with self.subTest(one=[fields(entry) for entry in one], other=[fields(entry) for entry in other]):
            self.assertIs(same_book(one, other), truth)
            self.assertIs(same_book(other, one), truth)

    def test_a_book_and_itself(self):
        for book in good_books():
            self.told(book, book, True)
            self.told(book, list(book), True)

    def test_books_alike_in_all_fields_of_other_objects(self):
        for one, other in zip(good_books(), good_books()):
            self.told(one, other, True)

    def test_books_unlike(self):
        books = good_books()
        for at, one in enumerate(books):
            for place, other in enumerate(books):
                self.told(one, other, at == place)

    def test_one_entry_more(self):
        for book in good_books():
            self.told(book, book + [genus(10 ** 9, 10 ** 6)], False)
            if book:
                self.told(book, book[1:], False)
                self.told(book, book[:-1], False)

    def test_just_one_field_unlike(self):
        others = {
            "number": 100, "day": 99, "rank": None, "word": "villosa",
            "under": 98, "sheet": 97, "base": 96, "described": False,
        }
        for told in SORTS:
            for name in FIELDS:
                turned = dict(zip(FIELDS, told))
                if turned[name] is None or name == "rank" and told[2] == "genus":
                    continue
                turned[name] = others[name]
                if name == "rank":
                    turned[name] = "form" if told[2] == "species" else "species"
                one, other = Entry(*told), Entry(**turned)
                self.told([one], [other], False)

    def test_just_one_field_unlike_at_any_place_of_a_book(self):
        for at in range(len(SORTS)):
            turned = list(SORTS)
            turned[at] = turned[at][:3] + ("villosa",) + turned[at][4:]
            self.told([Entry(*told) for told in SORTS], [Entry(*told) for told in turned], False)

    def test_a_sheet_and_a_base_of_one_number_are_unlike(self):
        tied = Entry(3, 1, "species", "canina", 1, 2)
        based = Entry(3, 1, "species", "canina", 1, None, 2)
        self.told([tied], [based], False)

    def test_described_counts_of_an_entry_with_a_base_too(self):
        one = Entry(3, 1, "species", "canina", 1, None, 2, True)
        other = Entry(3, 1, "species", "canina", 1, None, 2, False)
        self.told([one], [other], False)

    def test_books_stay_as_they_were(self):
        for one in good_books():
            for other in good_books():
                first, second = list(one), list(other)
                same_book(one, other)
                self.assertEqual((one, other), (first, second))

    def test_no_book_as_the_first_or_the_second(self):
        for thing in no_lists() + [genus(1, 1), (genus(1, 1),)] + bad_books():
            for book in ([], [genus(1, 1)]):
                self.refused(NoBook, same_book, thing, book)
                self.refused(NoBook, same_book, book, thing)
            self.refused(NoBook, same_book, thing, thing)

    def test_no_book_is_refused_where_the_entries_ahead_are_unlike_already(self):
        self.refused(NoBook, same_book, [genus(1, 1)], [genus(5, 5), genus(4, 4)])
        self.refused(NoBook, same_book, [genus(5, 5), genus(4, 4)], [genus(1, 1)])

    def test_a_refused_list_stays_as_it_was(self):
        for thing in bad_books():
            kept, book = list(thing), [genus(1, 1)]
            entry = book[0]
            for pair in ((thing, book), (book, thing)):
                with self.assertRaises(NoBook):
                    same_book(*pair)
            self.assertEqual(len(thing), len(kept))
            self.assertTrue(all(one is other for one, other in zip(thing, kept)))
            self.assertEqual((len(book), book[0]), (1, entry))


if __name__ == "__main__":
    unittest.main()

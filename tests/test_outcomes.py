import random
import unittest

from rightname.errors import NoBook
from rightname.outcomes import full_names, outcomes, roots, tied
from tests.draws import drawn_book
from tests.makers import Refusing, fields, form, genus, moved, no_books, species

ASKED = (outcomes, full_names, roots, tied)


def small_book():
    """Each rank rightly, and a species and a form moved under others."""
    return [
        genus(1, 1, "rosa", 101),
        genus(2, 1, "rubus", 102),
        species(3, 2, "canina", 1, 103),
        form(4, 3, "alba", 3, 104),
        moved(5, 4, "species", "canina", 2, 3),
        moved(6, 5, "form", "alba", 5, 4),
    ]


def slow_outcomes(book):
    """Point 6 in its own words: each entry tried by all that are ahead of it, from the start."""
    outs, names = {}, {}
    for at, entry in enumerate(book):
        right = [other for other in book[:at] if outs[other.number] == "right"]
        upper = {"species": "genus", "form": "species"}.get(entry.rank)
        over = [other for other in right if other.number == entry.under and other.rank == upper]
        bases = [
            other for other in right
            if other.number == entry.base and other.rank == entry.rank and other.base is None
        ]
        placed = entry.rank == "genus" or over != []
        names[entry.number] = None
        if placed:
            names[entry.number] = (names[over[0].number] if over else ()) + (entry.word,)
        named = [other for other in book if other.number == entry.base]
        rules = [
            ("undescribed", entry.base is None and not entry.described),
            ("unplaced", not placed),
            ("baseless", entry.base is not None and not bases),
            ("reworded", entry.base is not None and any(other.word != entry.word for other in named)),
            ("alike", any(
                other.rank == entry.rank and names[other.number] == names[entry.number] for other in right
            )),
            ("right", True),
        ]
        outs[entry.number] = [word for word, so in rules if so][0]
    return outs, names


class Telling(unittest.TestCase):
    def out(self, book, told):
        """The outcome of a book's last entry, all others being asked for by the way."""
        found = outcomes(book)
        self.assertEqual(found[book[-1].number], told)
        self.assertEqual(list(sorted(found)), sorted(entry.number for entry in book))

    def name(self, book, told):
        self.assertEqual(full_names(book)[book[-1].number], told)


class Empty(unittest.TestCase):
    def test_the_empty_book(self):
        for asked in ASKED:
            self.assertEqual(asked([]), {})
            self.assertIs(type(asked([])), dict)


class Right(Telling):
    def test_all_of_the_small_book(self):
        self.assertEqual(outcomes(small_book()), dict.fromkeys(range(1, 7), "right"))

    def test_their_full_names(self):
        self.assertEqual(full_names(small_book()), {
            1: ("rosa",), 2: ("rubus",), 3: ("rosa", "canina"), 4: ("rosa", "canina", "alba"),
            5: ("rubus", "canina"), 6: ("rubus", "canina", "alba"),
        })

    def test_their_roots_and_sheets(self):
        self.assertEqual(roots(small_book()), {1: 1, 2: 2, 3: 3, 4: 4, 5: 3, 6: 4})
        self.assertEqual(tied(small_book()), {1: 101, 2: 102, 3: 103, 4: 104, 5: 103, 6: 104})

    def test_one_day_by_rising_numbers_is_ahead_too(self):
        book = [genus(1, 7), species(2, 7, "canina", 1), form(3, 7, "alba", 2), genus(4, 7, "rubus")]
        book.append(moved(5, 7, "species", "canina", 4, 2))
        self.assertEqual(set(outcomes(book).values()), {"right"})

    def test_a_base_under_the_same_entry_is_alike_but_not_baseless(self):
        self.out([genus(1, 1), species(2, 1, "canina", 1), moved(3, 1, "species", "canina", 1, 2)], "alike")

    def test_an_entry_with_a_base_need_not_be_described(self):
        book = small_book()
        book[4] = moved(5, 4, "species", "canina", 2, 3, described=False)
        self.assertEqual(outcomes(book), dict.fromkeys(range(1, 7), "right"))

    def test_several_entries_tied_to_one_sheet(self):
        book = [genus(1, 1, "rosa", 9), genus(2, 1, "rubus", 9), species(3, 1, "a", 1, 9), form(4, 1, "a", 3, 9)]
        self.assertEqual(set(outcomes(book).values()), {"right"})
        self.assertEqual(tied(book), {1: 9, 2: 9, 3: 9, 4: 9})


class Undescribed(Telling):
    def test_each_rank(self):
        self.out([genus(1, 1, described=False)], "undescribed")
        self.out([genus(1, 1), species(2, 1, "canina", 1, described=False)], "undescribed")
        self.out([genus(1, 1), species(2, 1, "a", 1), form(3, 1, "b", 2, described=False)], "undescribed")

    def test_its_name_is_free_for_the_next(self):
        self.out([genus(1, 1, described=False), genus(2, 2)], "right")

    def test_full_names(self):
        self.name([genus(1, 1, "rosa", described=False)], ("rosa",))
        self.name([genus(1, 1), species(2, 1, "canina", 1, described=False)], ("rosa", "canina"))
        self.name([species(2, 1, "canina", 1, described=False)], None)

    def test_neither_roots_nor_sheets(self):
        book = [genus(1, 1, described=False), genus(2, 2)]
        self.assertEqual((roots(book), tied(book)), ({2: 2}, {2: 2}))


class Unplaced(Telling):
    def unplaced(self, book):
        self.out(book, "unplaced")
        self.name(book, None)
        self.assertNotIn(book[-1].number, roots(book))
        self.assertNotIn(book[-1].number, tied(book))

    def test_under_an_entry_that_is_not_there(self):
        self.unplaced([species(2, 1, "canina", 1)])
        self.unplaced([genus(1, 1), species(2, 1, "canina", 3)])
        self.unplaced([genus(1, 1), species(2, 1, "canina", 1), form(3, 1, "alba", 9)])

    def test_under_one_that_stands_behind(self):
        for book in (
            [species(2, 1, "canina", 3), genus(3, 1)],
            [species(2, 1, "canina", 1), genus(1, 2)],
            [genus(1, 1), form(2, 1, "alba", 3), species(3, 1, "canina", 1)],
        ):
            found = outcomes(book)
            self.assertEqual([found[entry.number] for entry in book].count("unplaced"), 1)
            self.assertEqual(found[2], "unplaced")
            self.assertIsNone(full_names(book)[2])

    def test_under_itself(self):
        self.unplaced([genus(1, 1), species(2, 1, "canina", 2)])
        self.unplaced([genus(1, 1), species(2, 1, "canina", 1), form(3, 1, "alba", 3)])

    def test_under_one_of_the_same_rank(self):
        self.unplaced([genus(1, 1), species(2, 1, "a", 1), species(3, 1, "b", 2)])
        self.unplaced([genus(1, 1), species(2, 1, "a", 1), form(3, 1, "b", 2), form(4, 1, "c", 3)])

    def test_under_one_of_the_rank_two_above(self):
        self.unplaced([genus(1, 1), form(2, 1, "alba", 1)])

    def test_under_one_of_the_rank_below(self):
        self.unplaced([genus(1, 1), species(2, 1, "a", 1), form(3, 1, "b", 2), species(4, 1, "c", 3)])

    def test_under_one_that_came_out_otherwise(self):
        self.unplaced([genus(1, 1, described=False), species(2, 1, "canina", 1)])
        self.unplaced([genus(1, 1), genus(2, 1), species(3, 1, "canina", 2)])
        self.unplaced([genus(1, 1), species(2, 1, "a", 7), form(3, 1, "b", 2)])
        self.unplaced([genus(1, 1), moved(2, 1, "species", "a", 1, 9), form(3, 1, "b", 2)])
        book = [genus(1, 1), genus(2, 1, "rubus"), species(3, 1, "a", 1)]
        self.unplaced(book + [moved(4, 1, "species", "b", 2, 3), form(5, 1, "b", 4)])

    def test_with_a_base_too(self):
        book = [genus(1, 1), species(2, 1, "canina", 1)]
        self.unplaced(book + [moved(3, 1, "species", "canina", 9, 2)])

    def test_ahead_of_it_barred_as_undescribed_it_has_no_full_name_either(self):
        for book in (
            [genus(1, 1), species(2, 1, "canina", 9, described=False)],
            [genus(1, 1), form(2, 1, "alba", 1, described=False)],
            [genus(1, 1), species(2, 1, "canina", 2, described=False)],
        ):
            self.out(book, "undescribed")
            self.name(book, None)

    def test_under_a_moved_entry_is_placed(self):
        book = small_book()[:5] + [form(9, 9, "nova", 5)]
        self.out(book, "right")
        self.name(book, ("rubus", "canina", "nova"))


class Baseless(Telling):
    def baseless(self, book, name):
        self.out(book, "baseless")
        self.name(book, name)
        self.assertNotIn(book[-1].number, roots(book))
        self.assertNotIn(book[-1].number, tied(book))

    def test_a_base_that_is_not_there(self):
        self.baseless([genus(1, 1), moved(2, 1, "species", "a", 1, 9)], ("rosa", "a"))

    def test_one_that_stands_behind(self):
        book = [genus(1, 1), genus(2, 1, "rubus"), moved(3, 1, "species", "a", 1, 4), species(4, 1, "a", 2)]
        self.assertEqual(outcomes(book), {1: "right", 2: "right", 3: "baseless", 4: "right"})
        self.assertEqual(full_names(book)[3], ("rosa", "a"))

    def test_itself(self):
        self.baseless([genus(1, 1), moved(2, 1, "species", "a", 1, 2)], ("rosa", "a"))

    def test_one_of_another_rank(self):
        book = [genus(1, 1, "a"), species(2, 1, "a", 1), genus(3, 1, "b"), species(4, 1, "c", 3)]
        self.baseless(book + [moved(9, 1, "species", "a", 3, 1)], ("b", "a"))
        self.baseless(book + [moved(9, 1, "form", "a", 4, 2)], ("b", "c", "a"))
        self.baseless(book + [moved(9, 1, "form", "a", 4, 1)], ("b", "c", "a"))
        book += [form(5, 1, "e", 4)]
        self.baseless(book + [moved(9, 1, "species", "e", 1, 5)], ("a", "e"))

    def test_one_that_has_a_base_itself(self):
        book = [genus(1, 1), genus(2, 1, "rubus"), genus(3, 1, "malus"), species(4, 1, "a", 1)]
        book.append(moved(5, 1, "species", "a", 2, 4))
        self.baseless(book + [moved(6, 1, "species", "a", 3, 5)], ("malus", "a"))

    def test_one_that_came_out_otherwise(self):
        book = [genus(1, 1), genus(2, 1, "rubus")]
        tail = [moved(9, 1, "species", "a", 2, 3)]
        self.baseless(book + [species(3, 1, "a", 1, described=False)] + tail, ("rubus", "a"))
        self.baseless(book + [species(3, 1, "a", 8)] + tail, ("rubus", "a"))
        self.baseless(
            [genus(1, 1), genus(2, 1, "rubus"), species(3, 1, "a", 1), species(4, 1, "a", 1),
             moved(5, 1, "species", "a", 2, 4)], ("rubus", "a"))


class Reworded(Telling):
    def test_a_base_of_another_word(self):
        book = [genus(1, 1), genus(2, 1, "rubus"), species(3, 1, "a", 1), moved(4, 1, "species", "b", 2, 3)]
        self.out(book, "reworded")
        self.name(book, ("rubus", "b"))
        self.assertEqual((roots(book), tied(book)), ({1: 1, 2: 2, 3: 3}, {1: 1, 2: 2, 3: 3}))

    def test_of_a_form(self):
        book = [genus(1, 1), species(2, 1, "a", 1), species(3, 1, "b", 1), form(4, 1, "c", 2)]
        self.out(book + [moved(5, 1, "form", "d", 3, 4)], "reworded")
        self.out(book + [moved(5, 1, "form", "c", 3, 4)], "right")


class Alike(Telling):
    def test_each_rank(self):
        self.out([genus(1, 1), genus(2, 2)], "alike")
        self.out([genus(1, 1), species(2, 1, "a", 1), species(3, 1, "a", 1)], "alike")
        self.out([genus(1, 1), species(2, 1, "a", 1), form(3, 1, "b", 2), form(4, 1, "b", 2)], "alike")

    def test_its_full_name_is_told_but_no_root_and_sheet(self):
        book = [genus(1, 1), genus(2, 2)]
        self.name(book, ("rosa",))
        self.assertEqual((roots(book), tied(book)), ({1: 1}, {1: 1}))

    def test_one_with_a_base(self):
        book = [genus(1, 1), genus(2, 1, "rubus"), species(3, 1, "a", 1), species(4, 1, "a", 2)]
        self.out(book + [moved(5, 1, "species", "a", 2, 3)], "alike")

    def test_one_word_at_unlike_ranks(self):
        self.out([genus(1, 1, "a"), species(2, 1, "a", 1), form(3, 1, "a", 2)], "right")
        self.name([genus(1, 1, "a"), species(2, 1, "a", 1), form(3, 1, "a", 2)], ("a", "a", "a"))
        self.assertEqual(
            outcomes([genus(1, 1, "a"), species(2, 1, "a", 1), form(3, 1, "a", 2)]),
            {1: "right", 2: "right", 3: "right"})

    def test_one_word_under_unlike_entries(self):
        self.out([genus(1, 1), genus(2, 1, "rubus"), species(3, 1, "a", 1), species(4, 1, "a", 2)], "right")

    def test_one_full_name_that_came_out_otherwise_is_no_bar(self):
        self.out([genus(1, 1), species(2, 1, "a", 1, described=False), species(3, 1, "a", 1)], "right")
        self.out([genus(1, 1), moved(2, 1, "species", "a", 1, 9), species(3, 1, "a", 1)], "right")

    def test_one_full_name_behind_is_no_bar(self):
        self.assertEqual(outcomes([genus(1, 1), genus(2, 1), genus(3, 1)]), {1: "right", 2: "alike", 3: "alike"})


class SeveralRules(Telling):
    """Each pair of rules that can bar one entry; the first is told."""

    def test_undescribed_and_unplaced(self):
        self.out([genus(1, 1), species(2, 1, "a", 9, described=False)], "undescribed")

    def test_undescribed_and_alike(self):
        self.out([genus(1, 1), genus(2, 1, described=False)], "undescribed")

    def test_unplaced_and_baseless(self):
        self.out([genus(1, 1), moved(2, 1, "species", "a", 8, 9)], "unplaced")

    def test_unplaced_and_reworded(self):
        book = [genus(1, 1), species(2, 1, "a", 1)]
        self.out(book + [moved(3, 1, "species", "b", 9, 2)], "unplaced")

    def test_baseless_and_reworded(self):
        book = [genus(1, 1), genus(2, 1, "rubus"), species(3, 1, "a", 1, described=False)]
        self.out(book + [moved(4, 1, "species", "b", 2, 3)], "baseless")
        self.out([genus(1, 1), genus(2, 1, "rubus"), moved(4, 1, "species", "b", 2, 1)], "baseless")

    def test_baseless_and_alike(self):
        book = [genus(1, 1), species(2, 1, "a", 1)]
        self.out(book + [moved(3, 1, "species", "a", 1, 9)], "baseless")

    def test_reworded_and_alike(self):
        book = [genus(1, 1), species(2, 1, "a", 1), species(3, 1, "b", 1)]
        self.out(book + [moved(4, 1, "species", "b", 1, 2)], "reworded")


class Drawn(unittest.TestCase):
    def test_as_point_6_tells_it(self):
        chance = random.Random(6)
        seen = set()
        for round_ in range(300):
            book = drawn_book(chance, chance.randint(0, 40))
            outs, names = slow_outcomes(book)
            self.assertEqual(outcomes(book), outs)
            self.assertEqual(full_names(book), names)
            seen.update(outs.values())
        self.assertEqual(seen, {"right", "undescribed", "unplaced", "baseless", "reworded", "alike"})

    def test_point_7(self):
        chance = random.Random(7)
        for round_ in range(100):
            book = drawn_book(chance, 30)
            outs, names, found, sheets = [asked(book) for asked in ASKED]
            right = [entry for entry in book if outs[entry.number] == "right"]
            self.assertEqual(sorted(found), sorted(entry.number for entry in right))
            self.assertEqual(sorted(sheets), sorted(found))
            by_number = {entry.number: entry for entry in book}
            for entry in right:
                root = by_number[found[entry.number]]
                self.assertEqual(root.number, entry.base or entry.number)
                self.assertEqual(sheets[entry.number], root.sheet)
            told = [(entry.rank, names[entry.number]) for entry in right]
            self.assertEqual(len(told), len(set(told)))

    def test_an_entry_behind_changes_the_outcome_of_none(self):
        chance = random.Random(71)
        for round_ in range(50):
            book = drawn_book(chance, 25)
            whole = [asked(book) for asked in ASKED]
            for count in range(len(book)):
                numbers = [entry.number for entry in book[:count]]
                for asked, told in zip(ASKED, whole):
                    kept = {number: told[number] for number in numbers if number in told}
                    self.assertEqual(asked(book[:count]), kept)


class Asked(Refusing):
    def test_dicts_that_are_told_and_then_changed_change_nothing(self):
        book = small_book()
        for asked in ASKED:
            first = asked(book)
            kept = dict(first)
            first.clear()
            first[99] = "right"
            self.assertEqual(asked(book), kept)
            self.assertIsNot(asked(book), asked(book))

    def test_the_book_stays_as_it_was(self):
        for asked in ASKED:
            book = small_book()
            entries, kept = list(book), [fields(entry) for entry in book]
            told = asked(book)
            self.assertEqual(book, entries)
            self.assertEqual([fields(entry) for entry in book], kept)
            before = dict(told)
            book.clear()
            self.assertEqual(told, before)

    def test_what_is_no_book(self):
        for asked in ASKED:
            for thing in no_books():
                self.refused(NoBook, asked, thing)

    def test_many_entries(self):
        book = [genus(number, 1, "a" + "abcdefghij"[number % 10]) for number in range(1, 301)]
        self.assertEqual(list(outcomes(book).values()), ["right"] * 10 + ["alike"] * 290)


if __name__ == "__main__":
    unittest.main()

import itertools
import random
import unittest

from rightname.acts import Act, act_list, in_order, of_day, standings
from rightname.basics import RANKS
from rightname.errors import NoAct, NoBook, NoDay, NoNumber, NoRank
from rightname.outcomes import outcomes
from tests.draws import drawn_acts, drawn_book
from tests.makers import (
    Refusing, act_fields, fields, form, genus, keep, leave, moved, no_books, species, strike,
)
from tests.things import Balks, no_lists, no_numbers, no_texts

DEEDS = ("keep", "strike", "leave")
BAD_DAYS = [0, -1, 10 ** 6 + 1, 10 ** 30] + no_numbers() + [None]
BAD_DEEDS = ["", "Keep", "keep ", " keep", "kept", "keeps", "struck", "left", "drop", "keep\n"] + no_texts() + [None]
BAD_NUMBERS = [0, -1, 10 ** 9 + 1, 10 ** 30] + no_numbers() + [None]
BAD_RANKS = ["", "Genus", "genus ", "family", "forms"] + no_texts() + [None]


def book_of_acts():
    """Right roots of each rank (1 to 6), a moved entry (7), and barred ones (8, 9); days from 2 to 6."""
    return [
        genus(1, 2, "rosa"), genus(5, 2, "rubus"), genus(8, 2, "rosa"),
        species(2, 3, "canina", 1), species(6, 3, "arvensis", 5), species(9, 3, "bare", 1, described=False),
        form(3, 4, "alba", 2), form(4, 4, "rubra", 2),
        moved(7, 6, "species", "canina", 5, 2),
    ]


class Made(Refusing):
    def test_the_fields(self):
        for deed in DEEDS:
            for day, number in ((1, 1), (10 ** 6, 10 ** 9), (3, 4)):
                self.assertEqual(act_fields(Act(day, deed, number)), (day, deed, number))
        told = Act(day=3, deed="keep", number=4)
        self.assertEqual(act_fields(told), (3, "keep", 4))

    def test_a_bad_day(self):
        for day in BAD_DAYS:
            self.refused(NoDay, Act, day, "keep", 1)

    def test_a_bad_deed(self):
        for deed in BAD_DEEDS:
            self.assertEqual(self.refused(NoAct, Act, 1, deed, 1).place, 0)

    def test_a_bad_number(self):
        for number in BAD_NUMBERS:
            self.refused(NoNumber, Act, 1, "leave", number)

    def test_the_first_bad_part_is_told(self):
        good, kinds = (1, "keep", 1), (NoDay, NoAct, NoNumber)
        for bad in ((0, "drop", 0), (Balks(), Balks(), Balks()), (None, None, None)):
            for choice in range(1, 8):
                parts = [bad[at] if choice >> at & 1 else good[at] for at in range(3)]
                first = min(at for at in range(3) if choice >> at & 1)
                self.refused(kinds[first], Act, *parts)


class Lists(Refusing):
    def no_act(self, entries, acts, place):
        told = self.refused(NoAct, act_list, entries, acts)
        self.assertEqual(told.place, place)

    def test_the_empty_list(self):
        for book in ([], book_of_acts()):
            self.assertEqual(act_list(book, []), [])

    def test_good_ones(self):
        book = book_of_acts()
        for acts in (
            [keep(2, 1)], [strike(10 ** 6, 3)], [keep(2, 1), keep(2, 5), strike(3, 2), leave(4, 3), leave(9, 1)],
        ):
            self.assertEqual(act_list(book, acts), acts)

    def test_several_on_one_day_in_any_order(self):
        book = book_of_acts()
        acts = [keep(5, 4), strike(5, 1), leave(5, 4), keep(5, 1)]
        for told in itertools.permutations(acts):
            self.assertEqual(act_list(book, list(told)), list(told))

    def test_a_new_list_and_the_other_as_it_was(self):
        book = book_of_acts()
        acts = [keep(2, 1), strike(3, 2)]
        kept, values = list(acts), [act_fields(act) for act in acts]
        told = act_list(book, acts)
        self.assertIsNot(told, acts)
        told.clear()
        self.assertEqual(acts, kept)
        self.assertEqual([act_fields(act) for act in acts], values)
        told = act_list(book, acts)
        acts.clear()
        self.assertEqual(told, kept)
        self.assertEqual(book and [fields(entry) for entry in book], [fields(entry) for entry in book_of_acts()])

    def test_no_book_goes_first(self):
        for thing in no_books():
            self.refused(NoBook, act_list, thing, [])
            self.refused(NoBook, act_list, thing, [keep(1, 1)])
            self.refused(NoBook, act_list, thing, Balks())
            self.refused(NoBook, act_list, thing, [None])

    def test_what_is_no_list(self):
        for book in ([], book_of_acts()):
            for thing in no_lists() + [keep(2, 1), (keep(2, 1),), (), {0: keep(2, 1)}]:
                self.no_act(book, thing, 0)

    def test_what_is_no_act_at_each_place(self):
        acts = [keep(2, 1), keep(2, 5), strike(3, 2)]
        strangers = no_lists() + [[], [keep(2, 1)], (2, "keep", 1), {"day": 2}, "2 keep 1", genus(1, 2), Act]
        for stranger in strangers:
            for at in range(4):
                self.no_act(book_of_acts(), acts[:at] + [stranger] + acts[at:], at)

    def test_a_day_less_than_that_of_the_act_ahead(self):
        self.no_act(book_of_acts(), [keep(9, 1), keep(8, 1)], 1)
        self.no_act(book_of_acts(), [keep(7, 1), keep(9, 1), keep(9, 2), keep(8, 1), keep(9, 1)], 3)

    def test_an_entry_that_is_not_in_the_book(self):
        self.no_act([], [keep(2, 1)], 0)
        self.no_act(book_of_acts(), [keep(2, 1), keep(9, 10)], 1)

    def test_one_that_did_not_come_out_rightly(self):
        for number in (8, 9):
            self.no_act(book_of_acts(), [keep(9, 1), keep(9, number)], 1)

    def test_one_that_has_a_base(self):
        self.assertEqual(outcomes(book_of_acts())[7], "right")
        self.no_act(book_of_acts(), [keep(9, 7)], 0)

    def test_one_of_a_later_day(self):
        self.no_act(book_of_acts(), [keep(1, 1)], 0)
        self.no_act(book_of_acts(), [keep(2, 1), keep(2, 2)], 1)
        self.no_act(book_of_acts(), [keep(2, 1), keep(3, 2), keep(3, 3), keep(3, 2)], 2)
        self.assertEqual(len(act_list(book_of_acts(), [keep(2, 1), keep(3, 2), keep(4, 3)])), 3)

    def test_the_first_bad_place_is_told(self):
        self.no_act(book_of_acts(), [keep(9, 99), None, keep(1, 1)], 0)
        self.no_act(book_of_acts(), [keep(9, 1), None, keep(9, 99)], 1)

    def test_refused_ones_stay_as_they_were(self):
        acts = [keep(9, 1), None, keep(9, 99)]
        kept = list(acts)
        self.refused(NoAct, act_list, book_of_acts(), acts)
        self.assertEqual(acts, kept)


class OfDay(Refusing):
    def test_days_ahead_between_on_and_behind(self):
        book = book_of_acts()
        acts = [keep(2, 1), keep(2, 5), strike(5, 2), leave(7, 1)]
        counts = {1: (0, 0), 2: (3, 2), 3: (6, 2), 4: (8, 2), 5: (8, 3), 6: (9, 3), 7: (9, 4), 8: (9, 4)}
        counts[10 ** 6] = (9, 4)
        for day, (entries, deeds) in counts.items():
            told = of_day(book, acts, day)
            self.assertIs(type(told), tuple)
            self.assertEqual(told, (book[:entries], acts[:deeds]))

    def test_the_empty_books(self):
        self.assertEqual(of_day([], [], 1), ([], []))

    def test_new_lists(self):
        book, acts = book_of_acts(), [keep(2, 1)]
        told = of_day(book, acts, 9)
        self.assertIsNot(told[0], book)
        self.assertIsNot(told[1], acts)
        told[0].clear()
        told[1].clear()
        self.assertEqual((len(book), len(acts)), (9, 1))
        told = of_day(book, acts, 9)
        book.clear()
        acts.clear()
        self.assertEqual((len(told[0]), len(told[1])), (9, 1))


class Standings(Refusing):
    def test_without_acts_all_roots_are_plain(self):
        self.assertEqual(standings([], [], 1), {})
        self.assertEqual(standings(book_of_acts(), [], 1), {})
        self.assertEqual(standings(book_of_acts(), [], 2), {1: "plain", 5: "plain"})
        self.assertEqual(standings(book_of_acts(), [], 9), dict.fromkeys((1, 2, 3, 4, 5, 6), "plain"))

    def test_each_deed(self):
        told = standings(book_of_acts(), [keep(9, 1), strike(9, 2), leave(9, 3)], 9)
        self.assertEqual(told, {1: "kept", 2: "struck", 3: "plain", 4: "plain", 5: "plain", 6: "plain"})

    def test_only_acts_of_the_day_and_earlier(self):
        acts = [keep(4, 1), strike(6, 1), leave(8, 1)]
        told = {day: standings(book_of_acts(), acts, day)[1] for day in range(2, 10)}
        self.assertEqual(told, {
            2: "plain", 3: "plain", 4: "kept", 5: "kept", 6: "struck", 7: "struck", 8: "plain", 9: "plain",
        })

    def test_the_last_on_one_day_counts(self):
        told = {"keep": "kept", "strike": "struck", "leave": "plain"}
        for deeds in itertools.product(DEEDS, repeat=3):
            acts = [Act(5, deed, 2) for deed in deeds]
            self.assertEqual(standings(book_of_acts(), acts, 5)[2], told[deeds[-1]])
            days = [Act(5 + at, deed, 2) for at, deed in enumerate(deeds)]
            for at, deed in enumerate(deeds):
                self.assertEqual(standings(book_of_acts(), days, 5 + at)[2], told[deed])

    def test_acts_of_others_leave_a_root_alone(self):
        acts = [keep(5, 2), strike(5, 3), strike(6, 1)]
        told = standings(book_of_acts(), acts, 9)
        self.assertEqual((told[1], told[2], told[3], told[4]), ("struck", "kept", "struck", "plain"))

    def test_dicts_are_the_askers_own(self):
        book, acts = book_of_acts(), [keep(9, 1)]
        first = standings(book, acts, 9)
        kept = dict(first)
        first.clear()
        self.assertEqual(standings(book, acts, 9), kept)


class InOrder(Refusing):
    def test_each_rank_alone_without_moved_ones(self):
        book = book_of_acts()
        self.assertEqual(in_order(book, [], 9, "genus"), [1, 5])
        self.assertEqual(in_order(book, [], 9, "species"), [2, 6])
        self.assertEqual(in_order(book, [], 9, "form"), [3, 4])
        self.assertEqual([in_order(book, [], 3, rank) for rank in RANKS], [[1, 5], [2, 6], []])
        self.assertEqual([in_order(book, [], 1, rank) for rank in RANKS], [[], [], []])

    def test_the_books_order_goes_by_day_then_number(self):
        book = [genus(9, 1, "a"), genus(3, 2, "b"), genus(7, 2, "c"), genus(1, 3, "e")]
        self.assertEqual(in_order(book, [], 9, "genus"), [9, 3, 7, 1])
        self.assertEqual(in_order(book, [keep(5, 1), keep(5, 7)], 9, "genus"), [7, 1, 9, 3])

    def test_kept_ones_by_the_books_order_not_by_their_acts(self):
        book = book_of_acts()
        for acts in ([keep(9, 6), keep(9, 2)], [keep(9, 2), keep(9, 6)], [keep(8, 6), keep(9, 2)]):
            self.assertEqual(in_order(book, acts, 9, "species"), [2, 6])

    def test_kept_ahead_of_plain_and_struck_ones_not_told(self):
        book = book_of_acts()
        acts = [keep(6, 6), strike(7, 2), leave(8, 6), leave(9, 2)]
        told = [in_order(book, acts, day, "species") for day in range(5, 10)]
        self.assertEqual(told, [[2, 6], [6, 2], [6], [6], [2, 6]])

    def test_new_lists(self):
        book = book_of_acts()
        in_order(book, [], 9, "genus").clear()
        self.assertEqual(in_order(book, [], 9, "genus"), [1, 5])


class Drawn(unittest.TestCase):
    def test_as_point_10_tells_it(self):
        chance = random.Random(10)
        for round_ in range(120):
            book = drawn_book(chance, 30)
            acts = drawn_acts(chance, book, 12)
            day = chance.randint(1, 16)
            entries, deeds = of_day(book, acts, day)
            self.assertEqual(entries, [entry for entry in book if entry.day <= day])
            self.assertEqual(deeds, [act for act in acts if act.day <= day])
            outs = outcomes(entries)
            found = {}
            for entry in entries:
                if outs[entry.number] == "right" and entry.base is None:
                    named = [act.deed for act in deeds if act.number == entry.number]
                    found[entry.number] = {"keep": "kept", "strike": "struck"}.get((["leave"] + named)[-1], "plain")
            self.assertEqual(standings(book, acts, day), found)
            for rank in RANKS:
                mine = [entry for entry in entries if entry.rank == rank and entry.number in found]
                free = [entry for entry in mine if found[entry.number] != "struck"]
                free.sort(key=lambda entry: (found[entry.number] != "kept", entry.day, entry.number))
                self.assertEqual(in_order(book, acts, day, rank), [entry.number for entry in free])


class Refusals(Refusing):
    def test_no_book_first(self):
        for thing in no_books():
            self.refused(NoBook, of_day, thing, Balks(), Balks())
            self.refused(NoBook, standings, thing, None, 0)
            self.refused(NoBook, in_order, thing, [None], 0, "family")

    def test_then_no_act(self):
        for thing in no_lists() + [[None], [keep(9, 99)], [keep(9, 1), keep(8, 1)], [keep(1, 1)]]:
            self.refused(NoAct, of_day, book_of_acts(), thing, Balks())
            self.refused(NoAct, standings, book_of_acts(), thing, 0)
            self.refused(NoAct, in_order, book_of_acts(), thing, 0, "family")
        for asked in (of_day, standings):
            self.assertEqual(self.refused(NoAct, asked, book_of_acts(), [keep(9, 1), None], 1).place, 1)
        self.assertEqual(self.refused(NoAct, in_order, book_of_acts(), [keep(9, 1), None], 1, "form").place, 1)

    def test_acts_of_later_days_are_looked_at_too(self):
        self.refused(NoAct, of_day, book_of_acts(), [keep(9, 99)], 1)
        self.refused(NoAct, standings, book_of_acts(), [keep(9, 8)], 1)

    def test_then_no_day(self):
        for day in BAD_DAYS:
            self.refused(NoDay, of_day, book_of_acts(), [keep(9, 1)], day)
            self.refused(NoDay, standings, book_of_acts(), [], day)
            self.refused(NoDay, in_order, book_of_acts(), [], day, "family")
            self.refused(NoDay, in_order, [], [], day, "genus")

    def test_then_no_rank(self):
        for rank in BAD_RANKS:
            self.refused(NoRank, in_order, book_of_acts(), [keep(9, 1)], 9, rank)
            self.refused(NoRank, in_order, [], [], 1, rank)


if __name__ == "__main__":
    unittest.main()

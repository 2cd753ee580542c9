import copy
import random
import unittest

from rightname.acts import Act, act_list
from rightname.clerk import Clerk
from rightname.court import verdicts
from rightname.entries import Entry
from rightname.errors import Late, NoAct, NoDay, NoEntry, NoPath, NoSheet, RightError
from rightname.outcomes import outcomes
from rightname.sortings import laid, taken
from tests.cases import cases
from tests.draws import MORE_WORDS, drawn_acts, drawn_entry, drawn_trial
from tests.makers import FIELDS, Refusing, fields, form, genus, keep, leave, moved, species, strike
from tests.test_acts import book_of_acts
from tests.test_sortings import BAD_SHEETS, lists_in
from tests.things import Balks, no_lists, no_numbers

BAD_DAYS = [0, -1, 10 ** 6 + 1, 10 ** 30] + no_numbers() + [None]


def clerk_of(entries=(), acts=(), sorting=()):
    clerk = Clerk()
    for entry in entries:
        clerk.publish(entry)
    for act in acts:
        clerk.enter(act)
    for place, kind in enumerate(sorting):
        for inner, group in enumerate(kind):
            for deep, sheets in enumerate(group):
                for at, sheet in enumerate(sheets):
                    clerk.lay(sheet, first_path((place, inner, deep)) if at == 0 else (place, inner, deep))
    return clerk


def first_path(path):
    """The path by which a form group is begun: its first one begins the groups above, too."""
    while len(path) > 1 and path[-1] == 0:
        path = path[:-1]
    return path


def state_of(clerk):
    return clerk.book(), clerk.acts(), clerk.sorting(), [clerk.verdicts(day) for day in (1, 5, 9)]


class Keeping(Refusing):
    def refused_by(self, clerk, kind, call, *args):
        """Refused, and the clerk has all as it was."""
        kept = state_of(clerk)
        told = self.refused(kind, call, *args)
        self.assertEqual(state_of(clerk), kept)
        return told


class New(unittest.TestCase):
    def test_a_new_one_is_empty(self):
        clerk = Clerk()
        self.assertEqual((clerk.book(), clerk.acts(), clerk.sorting()), ([], [], []))
        self.assertEqual([clerk.verdicts(day) for day in (1, 10 ** 6)], [[], []])

    def test_each_clerk_has_books_of_its_own(self):
        one, other = Clerk(), Clerk()
        one.publish(genus(1, 1))
        one.enter(keep(1, 1))
        one.lay(1, (0,))
        self.assertEqual((other.book(), other.acts(), other.sorting()), ([], [], []))


class Publishing(Keeping):
    def test_each_outcome(self):
        clerk = Clerk()
        told = [clerk.publish(entry) for entry in (
            genus(1, 1), genus(2, 1, described=False), species(3, 1, "a", 9), moved(4, 1, "species", "a", 1, 9),
            species(5, 1, "a", 1), moved(6, 1, "species", "b", 1, 5), genus(7, 2), form(8, 2, "b", 5),
        )]
        self.assertEqual(told, [
            "right", "undescribed", "unplaced", "baseless", "right", "reworded", "alike", "right",
        ])

    def test_as_the_outcomes_of_the_whole_book(self):
        chance = random.Random(18)
        for round_ in range(50):
            book = drawn_trial(chance)[0]
            clerk = Clerk()
            told = {entry.number: clerk.publish(entry) for entry in book}
            self.assertEqual(told, outcomes(book))
            self.assertEqual(clerk.book(), book)

    def test_what_is_no_entry(self):
        good = genus(9, 9)
        strangers = no_lists() + [[], [good], fields(good), dict(zip(FIELDS, fields(good))), Entry, "9 9 genus a tied 1"]
        for thing in strangers + [keep(1, 1)]:
            for clerk in (Clerk(), clerk_of([genus(1, 1)])):
                self.refused_by(clerk, NoEntry, clerk.publish, thing)

    def test_late_ones(self):
        clerk = clerk_of([genus(3, 2, "a"), genus(5, 4, "b"), genus(7, 4, "c")], [keep(4, 5)], [[[[3, 5]]]])
        for entry in (
            genus(7, 4, "e"), genus(6, 4, "e"), genus(1, 4, "e"), genus(9, 3, "e"), genus(9, 1, "e"), genus(10 ** 9, 3, "e"),
        ):
            self.refused_by(clerk, Late, clerk.publish, entry)
        for number in (3, 5, 7):
            self.refused_by(clerk, Late, clerk.publish, genus(number, 5, "e"))
            self.refused_by(clerk, Late, clerk.publish, genus(number, 10 ** 6, "e"))
        self.assertEqual(clerk.publish(genus(8, 4, "e")), "right")
        self.assertEqual(clerk.publish(genus(1, 5, "f")), "right")

    def test_a_barred_entry_is_in_the_book_and_its_number_too(self):
        clerk = clerk_of([genus(1, 1, described=False)])
        self.assertEqual(len(clerk.book()), 1)
        self.refused_by(clerk, Late, clerk.publish, genus(1, 2))
        self.assertEqual(clerk.publish(genus(2, 2)), "right")


class Entering(Keeping):
    def test_tells_nothing(self):
        clerk = clerk_of(book_of_acts())
        acts = [keep(2, 1), strike(2, 5), strike(3, 2), leave(3, 2), keep(9, 1)]
        for act in acts:
            self.assertIsNone(clerk.enter(act))
        self.assertEqual(clerk.acts(), acts)
        self.assertEqual(act_list(clerk.book(), clerk.acts()), acts)

    def test_what_is_no_act(self):
        strangers = no_lists() + [[], [keep(2, 1)], (2, "keep", 1), "2 keep 1", genus(1, 2), Act]
        for thing in strangers:
            for acts in ([], [keep(2, 1)], [keep(2, 1), keep(2, 1), strike(9, 1)]):
                clerk = clerk_of(book_of_acts(), acts)
                told = self.refused_by(clerk, NoAct, clerk.enter, thing)
                self.assertEqual(told.place, len(acts))

    def test_one_that_could_not_be_the_last(self):
        acts = [keep(2, 1), keep(5, 5)]
        for bad in (
            keep(4, 1), keep(1, 1), keep(9, 10), keep(9, 8), keep(9, 9), keep(9, 7),
        ):
            clerk = clerk_of(book_of_acts(), acts)
            self.assertEqual(self.refused_by(clerk, NoAct, clerk.enter, bad).place, 2)
        clerk = clerk_of(book_of_acts())
        for bad in (keep(1, 1), keep(2, 2), keep(3, 3)):
            self.assertEqual(self.refused_by(clerk, NoAct, clerk.enter, bad).place, 0)
        clerk = Clerk()
        self.assertEqual(self.refused_by(clerk, NoAct, clerk.enter, keep(1, 1)).place, 0)

    def test_an_entry_that_is_published_later_may_be_named_then(self):
        clerk = clerk_of([genus(1, 1)])
        self.refused_by(clerk, NoAct, clerk.enter, keep(3, 2))
        clerk.publish(genus(2, 3, "rubus"))
        clerk.enter(keep(3, 2))
        self.assertEqual(len(clerk.acts()), 1)

    def test_acts_ahead_of_later_entries(self):
        clerk = clerk_of([genus(1, 1)], [keep(9, 1)])
        self.assertEqual(clerk.publish(genus(2, 3, "rubus")), "right")
        self.refused_by(clerk, NoAct, clerk.enter, keep(5, 2))
        clerk.enter(keep(9, 2))


class Laying(Keeping):
    def test_as_laid_and_taken_do(self):
        chance = random.Random(180)
        refused = 0
        for round_ in range(60):
            clerk, sorting = Clerk(), []
            for step in range(40):
                sheet = chance.randint(1, 9)
                path = tuple(chance.choice((0, 0, 1, 2)) for place in range(chance.choice((1, 2, 3, 3))))
                lay = chance.random() < 0.8
                try:
                    sorting = laid(sorting, sheet, path) if lay else taken(sorting, sheet)
                    kind = None
                except RightError as error:
                    kind = type(error)
                    refused += 1
                call, args = (clerk.lay, (sheet, path)) if lay else (clerk.take, (sheet,))
                if kind is None:
                    self.assertIsNone(call(*args))
                else:
                    self.refused(kind, call, *args)
                self.assertEqual(clerk.sorting(), sorting)
        self.assertGreater(refused, 300)

    def test_a_sheet_that_lies_somewhere_is_moved(self):
        clerk = clerk_of(sorting=[[[[1, 2]]]])
        clerk.lay(2, (1,))
        self.assertEqual(clerk.sorting(), [[[[1]]], [[[2]]]])
        clerk.lay(1, (0, 0, 0))
        self.assertEqual(clerk.sorting(), [[[[1, 2]]]])

    def test_one_that_would_lie_nowhere_lies_where_it_lay(self):
        clerk = clerk_of([genus(1, 1)], [], [[[[1]]], [[[2]]]])
        self.refused_by(clerk, NoPath, clerk.lay, 1, (2,))
        self.refused_by(clerk, NoPath, clerk.lay, 1, (1, 0, 0))
        self.assertEqual(clerk.sorting(), [[[[1]]], [[[2]]]])

    def test_what_is_no_sheet_and_no_path(self):
        clerk = clerk_of([genus(1, 1)], [], [[[[1]]], [[[2]]]])
        for thing in BAD_SHEETS:
            self.refused_by(clerk, NoSheet, clerk.lay, thing, (0, 0, 0))
            self.refused_by(clerk, NoSheet, clerk.lay, thing, Balks())
            self.refused_by(clerk, NoSheet, clerk.take, thing)
        strangers = [thing for thing in no_lists() if type(thing) is not tuple]
        for thing in strangers + [(), (0, 0, 0, 0), (True,), [0, 0, 0], (0, 0, 2), (Balks(),)]:
            self.refused_by(clerk, NoPath, clerk.lay, 3, thing)
            self.refused_by(clerk, NoPath, clerk.lay, 1, thing)
        self.refused_by(clerk, NoSheet, clerk.take, 3)


class Told(Keeping):
    def test_new_lists_that_may_be_changed(self):
        clerk = clerk_of([genus(1, 1), genus(2, 1, "rubus")], [keep(1, 1)], [[[[1, 2], [3]]], [[[4]]]])
        kept = copy.deepcopy(clerk.sorting()), clerk.verdicts(9)
        clerk.book().clear()
        clerk.acts().append(None)
        for part in lists_in(clerk.sorting()):
            part.clear()
        table = clerk.verdicts(9)
        for verdict in table:
            verdict[4].append("more")
        table.clear()
        self.assertEqual((len(clerk.book()), len(clerk.acts())), (2, 1))
        self.assertEqual((clerk.sorting(), clerk.verdicts(9)), kept)
        self.assertEqual(clerk.publish(genus(3, 1, "malus")), "right")
        self.assertEqual(len(clerk.book()), 3)

    def test_each_case_of_the_court(self):
        for case in cases():
            with self.subTest(case=case.name):
                clerk = clerk_of(case.entries, case.acts, case.sorting)
                self.assertEqual(clerk.sorting(), case.sorting)
                self.assertEqual(clerk.verdicts(case.day), case.table)

    def test_what_is_no_day(self):
        clerk = clerk_of([genus(1, 1)], [keep(1, 1)], [[[[1]]]])
        for thing in BAD_DAYS:
            self.refused_by(clerk, NoDay, clerk.verdicts, thing)
            self.refused(NoDay, Clerk().verdicts, thing)

    def test_days_in_any_order(self):
        chance = random.Random(181)
        for round_ in range(30):
            entries, acts, sorting, day = drawn_trial(chance)
            clerk = clerk_of(entries, acts, sorting)
            days = list(range(1, 17)) * 2
            chance.shuffle(days)
            for asked in days:
                self.assertEqual(clerk.verdicts(asked), verdicts(entries, acts, sorting, asked))

    def test_also_behind_later_entries_acts_and_moves_and_of_days_gone_by(self):
        chance = random.Random(182)
        for round_ in range(25):
            clerk = Clerk()
            day, number = 1, 0
            for step in range(70):
                turn = chance.random()
                if turn < 0.55:
                    day += chance.choice((0, 0, 0, 1))
                    number += 1
                    clerk.publish(drawn_entry(chance, number, day, clerk.book(), 12, 0.05, MORE_WORDS))
                elif turn < 0.65:
                    for act in drawn_acts(chance, clerk.book(), 6):
                        if not clerk.acts() or act.day >= clerk.acts()[-1].day:
                            clerk.enter(act)
                else:
                    try:
                        clerk.lay(chance.randint(1, 14), tuple(chance.choice((0, 0, 1)) for place in range(chance.randint(1, 3))))
                    except NoPath:
                        pass
                asked = chance.randint(1, day + 2)
                self.assertEqual(
                    clerk.verdicts(asked), verdicts(clerk.book(), clerk.acts(), clerk.sorting(), asked))


if __name__ == "__main__":
    unittest.main()

import copy
import random
import unittest

from rightname.acts import Act
from rightname.court import verdicts
from rightname.errors import NoAct, NoBook, NoDay, NoSorting
from rightname.reader import read
from rightname.sortings import groups
from tests.cases import ROSA, cases
from tests.draws import drawn_trial
from tests.makers import Refusing, act_fields, fields, keep, no_books
from tests.slow import slow_verdicts
from tests.test_sortings import no_sortings
from tests.things import Balks, no_lists, no_numbers

BAD_DAYS = [0, -1, 10 ** 6 + 1, 10 ** 30] + no_numbers() + [None]
SORTING = [[[[1, 2], [3]]]]


class Kinds(unittest.TestCase):
    def kinds(self, table):
        self.assertIs(type(table), list)
        for verdict in table:
            self.assertIs(type(verdict), tuple)
            path, state, words, number, papers = verdict
            self.assertIs(type(path), tuple)
            self.assertIn(state, ("bears", "moves", "own", "new", "waits"))
            self.assertTrue(words is None or type(words) is tuple)
            self.assertTrue(number is None or type(number) is int)
            self.assertIs(type(papers), list)
            for paper in papers:
                self.assertIs(type(paper), tuple)
                self.assertEqual(len(paper), 3)
            self.assertEqual([paper[0] for paper in papers], sorted({paper[0] for paper in papers}))


class Told(Kinds):
    def test_each_case(self):
        for case in cases():
            with self.subTest(case=case.name):
                table = verdicts(*case.asked())
                self.assertEqual(table, case.table)
                self.kinds(table)

    def test_the_cases_have_every_state_and_reason_at_each_rank_that_can_have_it(self):
        states = {(verdict[1], len(verdict[0])) for case in cases() for verdict in case.table}
        self.assertEqual(states, {
            ("bears", 1), ("bears", 2), ("bears", 3), ("moves", 2), ("moves", 3), ("own", 3),
            ("new", 1), ("new", 2), ("new", 3), ("waits", 2), ("waits", 3),
        })
        reasons = {
            (paper[1], len(verdict[0])) for case in cases() for verdict in case.table for paper in verdict[4]
        }
        self.assertEqual(reasons, {
            ("struck", 1), ("struck", 2), ("struck", 3), ("later", 1), ("later", 2), ("later", 3), ("own", 3),
            ("same", 2), ("same", 3), ("booked", 2), ("booked", 3), ("taken", 2), ("taken", 3),
        })

    def test_later_entries_and_acts_change_nothing_on_a_day(self):
        for case in cases():
            entries = [entry for entry in case.entries if entry.day <= case.day]
            acts = [act for act in case.acts if act.day <= case.day]
            self.assertEqual(verdicts(entries, acts, case.sorting, case.day), case.table)


class Drawn(Kinds):
    def test_as_points_14_to_16_tell_it(self):
        chance = random.Random(14)
        seen = set()
        for round_ in range(400):
            asked = drawn_trial(chance)
            table = verdicts(*asked)
            self.assertEqual(table, slow_verdicts(*asked))
            self.kinds(table)
            self.assertEqual([verdict[0] for verdict in table], [path for path, sheets in groups(asked[2])])
            seen.update(verdict[1] for verdict in table)
            seen.update(paper[1] for verdict in table for paper in verdict[4])
        self.assertEqual(seen, {
            "bears", "moves", "own", "new", "waits", "struck", "later", "same", "booked", "taken",
        })


class Asked(Refusing):
    def test_what_is_handed_in_stays_as_it_was(self):
        for case in cases():
            entries, acts, sorting, day = case.asked()
            kept = (
                list(entries), [fields(entry) for entry in entries], list(acts), [act_fields(act) for act in acts],
                copy.deepcopy(sorting),
            )
            verdicts(entries, acts, sorting, day)
            self.assertEqual(kept, (
                entries, [fields(entry) for entry in entries], acts, [act_fields(act) for act in acts], sorting,
            ))

    def test_what_is_told_is_the_askers_own(self):
        for case in cases():
            table = verdicts(*case.asked())
            for verdict in table:
                verdict[4].append("more")
            table.append("more")
            self.assertEqual(verdicts(*case.asked()), case.table)

    def test_no_book_first(self):
        for thing in no_books():
            self.refused(NoBook, verdicts, thing, Balks(), Balks(), Balks())
            self.refused(NoBook, verdicts, thing, [], [], 1)

    def test_then_no_act(self):
        book = read("\n".join(ROSA))
        for thing in no_lists() + [[None], [keep(9, 99)], [keep(9, 1), keep(8, 1)], [Act(1, "keep", 2)]]:
            self.refused(NoAct, verdicts, book, thing, Balks(), Balks())
            self.refused(NoAct, verdicts, book, thing, [], 1)
        self.assertEqual(self.refused(NoAct, verdicts, book, [keep(9, 1), None], None, None).place, 1)

    def test_then_no_sorting(self):
        book = read("\n".join(ROSA))
        for thing in no_sortings():
            self.refused(NoSorting, verdicts, book, [], thing, Balks())
            self.refused(NoSorting, verdicts, [], [], thing, 1)

    def test_then_no_day(self):
        book = read("\n".join(ROSA))
        for thing in BAD_DAYS:
            self.refused(NoDay, verdicts, book, [keep(9, 1)], SORTING, thing)
            self.refused(NoDay, verdicts, [], [], [], thing)

    def test_the_least_and_greatest_day(self):
        book = read("\n".join(ROSA))
        self.assertEqual(verdicts(book, [], SORTING, 1)[0][1], "bears")
        self.assertEqual(verdicts(book, [], SORTING, 10 ** 6)[3][1], "bears")


if __name__ == "__main__":
    unittest.main()

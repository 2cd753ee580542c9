import copy
import itertools
import random
import unittest

from rightname.acts import Act
from rightname.basics import RANKS
from rightname.court import verdicts
from rightname.errors import NoAct, NoBook, NoDay, NoSorting
from rightname.reader import read
from rightname.walking import walked
from tests.cases import ALBA, GENERA, NEW, OWN, ROSA, WAITS, act, cases, verdict
from tests.changes import ODD, changed_tables
from tests.draws import drawn_acts, drawn_trial
from tests.makers import Refusing, keep, no_books
from tests.slow import Books, slow_walked
from tests.test_court import BAD_DAYS, SORTING
from tests.test_sortings import no_sortings
from tests.things import Balks, no_lists


def numbers_of(case):
    return [entry.number for entry in case.entries] or [1]


class Passing(unittest.TestCase):
    def test_the_courts_own_table_of_each_case(self):
        for case in cases():
            with self.subTest(case=case.name):
                self.assertIsNone(walked(*case.asked(), case.table))

    def test_the_courts_own_table_of_drawn_books(self):
        chance = random.Random(17)
        for round_ in range(200):
            asked = drawn_trial(chance)
            self.assertIsNone(walked(*asked, verdicts(*asked)))

    def test_no_groups_and_no_verdicts(self):
        self.assertIsNone(walked([], [], [], 1, []))


class Lacking(unittest.TestCase):
    def test_the_first_group_whose_verdict_is_lacking(self):
        for case in cases():
            for count in range(len(case.table)):
                told = walked(*case.asked(), case.table[:count])
                self.assertEqual(told, slow_walked(*case.asked(), case.table[:count]))
                self.assertLessEqual(told, case.table[count][0])

    def test_an_empty_table(self):
        self.assertEqual(walked([], [], [[[[1]]]], 1, []), (0,))

    def test_more_verdicts_behind(self):
        for case in cases():
            for thing in ODD + case.table[-1:]:
                with self.subTest(case=case.name, thing=object.__repr__(thing)):
                    self.assertEqual(walked(*case.asked(), case.table + [thing]), ())
                    self.assertEqual(walked(*case.asked(), case.table + [thing, None]), ())

    def test_more_verdicts_and_another_fault(self):
        for case in cases():
            if case.table:
                self.assertEqual(walked(*case.asked(), [None] + case.table[1:] + [None]), case.table[0][0])


class OneThingChanged(unittest.TestCase):
    def test_each_change_of_each_case(self):
        for case in cases():
            paths = [told[0] for told in case.table]
            for at, table in changed_tables(case.table, numbers_of(case)):
                told = walked(*case.asked(), table)
                if told not in paths or paths.index(told) > at:
                    self.fail((case.name, at, told, table))

    def test_each_change_as_point_17_tells_it(self):
        for case in cases():
            asked = case.asked()
            for count, (at, table) in enumerate(changed_tables(case.table, numbers_of(case))):
                # Each seventh one will do: the slow walk is slow.
                if count % 7 == 0 and walked(*asked, table) != slow_walked(*asked, table):
                    self.fail((case.name, at, table))

    def test_a_change_that_no_group_ahead_hangs_on_is_told_at_its_own_group(self):
        for case in cases():
            if any(paper[1] == "taken" for told in case.table for paper in told[4]):
                continue
            for at, table in changed_tables(case.table, numbers_of(case)):
                self.assertEqual(walked(*case.asked(), table), case.table[at][0], (case.name, table))


class ByTheTable(unittest.TestCase):
    """Groups that are tried by what the table tells of those behind them."""

    def told(self, rows, acts, sorting, table, path):
        asked = (read("\n".join(rows)), [act(row) for row in acts], sorting, 9)
        self.assertEqual(walked(*asked, table), path)
        self.assertEqual(slow_walked(*asked, table), path)

    def behind(self):
        """The word of the first species group is taken by the second one."""
        sorting = [[[[1, 5]], [[4]]]]
        table = [
            verdict("0", "bears", "rosa", 1), verdict("0.0", *NEW, (5, "taken", 4)), verdict("0.0.0", *WAITS),
            verdict("0.1", "moves", "rosa alba", 4), verdict("0.1.0", OWN, "rosa alba alba", None),
        ]
        return sorting, table

    def test_it_passes(self):
        sorting, table = self.behind()
        self.told(ALBA, [], sorting, table, None)

    def test_a_taker_behind_whose_verdict_has_other_kinds_takes_nothing(self):
        sorting, table = self.behind()
        for bad in (
            None, (), list(table[3]), table[3][:4], ((0, 2),) + table[3][1:], ((False, 1),) + table[3][1:],
            table[3][:1] + ("borne",) + table[3][2:], table[3][:2] + (["rosa", "alba"],) + table[3][3:],
            table[3][:2] + (("rosa", 1),) + table[3][3:], table[3][:3] + ("4",) + table[3][4:],
            table[3][:3] + (True,) + table[3][4:], table[3][:4] + (None,), table[3][:4] + ((),),
            table[3][:4] + ([None],), table[3][:4] + ([(9, "later")],), table[3][:4] + ([("9", "later", None)],),
            table[3][:4] + ([(9, None, None)],), table[3][:4] + ([(9, "later", "4")],),
            table[3][:4] + ([(None, "later", 4)],), table[3][:4] + ([(True, "later", 4)],),
            table[3][:4] + ([[9, "later", 4]],), table[3][:4] + ([(9, "later", False)],),
        ):
            with self.subTest(bad=bad):
                self.told(ALBA, [], sorting, table[:3] + [bad] + table[4:], (0, 0))
        self.told(ALBA, [], sorting, table[:3], (0, 0))
        self.told(ALBA, [], sorting, table[:3] + table[4:], (0, 0))

    def test_one_of_these_kinds_takes_though_it_tells_otherwise(self):
        sorting, table = self.behind()
        for bad in (
            table[3][:1] + ("bears",) + table[3][2:], table[3][:2] + (("x",),) + table[3][3:],
            table[3][:2] + ((),) + table[3][3:], table[3][:2] + (None,) + table[3][3:],
            table[3][:3] + (None,) + table[3][4:], table[3][:3] + (-7,) + table[3][4:],
            table[3][:4] + ([(9, "x", -1)],), table[3][:4] + ([(9, "", None), (3, "later", 4), (3, "later", 4)],),
        ):
            with self.subTest(bad=bad):
                self.told(ALBA, [], sorting, table[:3] + [bad] + table[4:], (0, 1))

    def test_one_that_neither_bears_nor_moves_takes_nothing(self):
        sorting, table = self.behind()
        for state in ("new", "own", "waits"):
            bad = table[3][:1] + (state,) + table[3][2:]
            self.told(ALBA, [], sorting, table[:3] + [bad] + table[4:], (0, 0))

    def test_a_group_of_two_candidates_without_a_paper_has_no_right_root(self):
        rows = ALBA + ["4 6 species bella under 3 tied 6"]
        sorting = [[[[1, 5]], [[4, 6]]]]
        table = [
            verdict("0", "bears", "rosa", 1), verdict("0.0", *NEW, (5, "taken", 4)), verdict("0.0.0", *WAITS),
            verdict("0.1", "moves", "rosa alba", 4, (6, "later", 4)), verdict("0.1.0", OWN, "rosa alba alba", None),
        ]
        self.told(rows, [], sorting, table, None)
        self.told(rows, [], sorting, table[:3] + [table[3][:4] + ([],)] + table[4:], (0, 0))
        none = [(4, "later", 6), (6, "later", 4)]
        self.told(rows, [], sorting, table[:3] + [table[3][:4] + (none,)] + table[4:], (0, 0))

    def test_papers_that_are_fit_to_be_told_in_any_order_are_told_at_their_own_group(self):
        rows = ALBA + ["4 6 species bella under 3 tied 6", "4 7 species canina under 3 tied 7"]
        sorting = [[[[1, 5]], [[4, 6, 7]]]]
        papers = [(6, "later", 4), (7, "later", 4)]
        table = [
            verdict("0", "bears", "rosa", 1), verdict("0.0", *NEW, (5, "taken", 4)), verdict("0.0.0", *WAITS),
            verdict("0.1", "moves", "rosa alba", 4, *papers), verdict("0.1.0", OWN, "rosa alba alba", None),
        ]
        self.told(rows, [], sorting, table, None)
        self.told(rows, [], sorting, table[:3] + [table[3][:4] + (papers[::-1],)] + table[4:], (0, 1))

    def test_where_two_groups_have_one_word_by_the_table_either_may_be_the_other(self):
        rows = ALBA + ["1 7 genus pyrus tied 7", "4 6 species alba under 7 tied 6"]
        rows = sorted(rows, key=lambda row: [int(word) for word in row.split(" ")[:2]])
        sorting = [[[[1, 6]], [[5]], [[4]]]]
        for other, path in ((4, (0, 1)), (5, (0, 1)), (6, (0, 0)), (1, (0, 0))):
            table = [
                verdict("0", "bears", "rosa", 1), verdict("0.0", *NEW, (6, "taken", other)), verdict("0.0.0", *WAITS),
                verdict("0.1", "moves", "rosa alba", 5), verdict("0.1.0", OWN, "rosa alba alba", None),
                verdict("0.2", "moves", "rosa alba", 4), verdict("0.2.0", OWN, "rosa alba alba", None),
            ]
            self.told(rows, [], sorting, table, path)

    def test_a_right_root_whose_word_is_taken_ahead_of_it_by_a_group_behind(self):
        sorting, table = self.behind()
        claimed = [
            table[0], verdict("0.0", "moves", "rosa alba", 5), verdict("0.0.0", OWN, "rosa alba alba", None),
        ]
        self.told(ALBA, [], sorting, claimed + table[3:], (0, 0))
        # Where the table does not give the word to the group behind, that group fails.
        new = [verdict("0.1", *NEW, (4, "taken", 5)), verdict("0.1.0", *WAITS)]
        self.told(ALBA, [], sorting, claimed + new, (0, 1))

    def test_a_struck_root_takes_nothing(self):
        sorting, table = self.behind()
        self.told(ALBA, ["5 strike 4"], sorting, table, (0, 0))

    def test_one_that_does_not_go_ahead_takes_nothing(self):
        sorting, table = self.behind()
        self.told(ALBA, ["5 keep 5"], sorting, table, (0, 0))

    def test_an_own_group_that_a_table_lets_bear_a_name_takes_by_the_table(self):
        rows = ROSA + ["4 4 species bella under 1 tied 4", "5 5 form alba under 4 tied 5"]
        rows[2] = "3 3 form alba under 2 tied 2 bare"
        rows += ["6 6 species dulcis under 1 tied 6", "6 7 form alba under 6 tied 2"]
        sorting = [[[[1, 5], [2]]]]
        table = [
            verdict("0", "bears", "rosa", 1), verdict("0.0", "bears", "rosa canina", 2),
            verdict("0.0.0", "moves", "rosa canina alba", 5), verdict("0.0.1", OWN, "rosa canina canina", None, (7, "own", 2)),
        ]
        self.told(rows, [], sorting, table, None)
        claimed = verdict("0.0.1", "moves", "rosa canina alba", 7)
        self.told(rows, ["8 keep 7"], sorting, table[:3] + [claimed], (0, 0, 0))
        taken = verdict("0.0.0", *NEW, (5, "taken", 7))
        self.told(rows, ["8 keep 7"], sorting, table[:2] + [taken, claimed], (0, 0, 1))

    def test_a_later_paper_by_a_root_that_does_not_go_ahead(self):
        sorting = [[[[1, 2, 3]]]]
        tail = [verdict("0.0", *NEW), verdict("0.0.0", *WAITS)]
        self.told(GENERA, [], sorting, [verdict("0", "bears", "rubus", 2, (1, "later", 2), (3, "later", 2))] + tail, (0,))
        self.told(GENERA, [], sorting, [verdict("0", *NEW, (1, "later", 2), (2, "later", 1), (3, "later", 1))] + tail, (0,))

    def test_a_struck_right_root(self):
        sorting = [[[[1, 2]]]]
        tail = [verdict("0.0", *NEW), verdict("0.0.0", *WAITS)]
        self.told(GENERA, ["5 strike 1"], sorting, [verdict("0", "bears", "rosa", 1, (2, "later", 1))] + tail, (0,))

    def test_a_whole_table_of_another_day(self):
        asked = (read("\n".join(ROSA)), [], SORTING)
        self.assertEqual(walked(*asked, 3, verdicts(*asked, 2)), (0, 0, 1))
        self.assertEqual(walked(*asked, 3, verdicts(*asked, 1)), (0, 0))


def pool(books, path):
    """Verdicts of a group that a table could have: each right root or none, each reason."""
    mine = books.candidates(path)
    roots = [number for number in sorted(books.standing) if books.ranks[number] == RANKS[len(path) - 1]]
    found = [(path, "waits", None, None, [])]
    over = {1: [()], 2: [("rosa",)], 3: [("rosa", "alba")]}[len(path)]
    for right in [None] + mine:
        losers = [number for number in mine if number != right]
        choices = []
        for number in losers:
            choice = [(number, "struck", None), (number, "same", None)]
            choice += [(number, reason, other) for reason in ("later", "booked", "taken", "own") for other in roots]
            choices.append(choice)
        for papers in itertools.product(*choices):
            if right is None:
                found.append((path, "new", None, None, list(papers)))
                continue
            for words in over:
                found.append((path,) + books.head(path, words, right) + (list(papers),))
    if len(path) == 3:
        found.append((path, "own", ("rosa", "alba", "alba"), None, []))
    return found


class NoOther(unittest.TestCase):
    def only_the_courts(self, rows, acts, sorting):
        asked = (read("\n".join(rows)), [act(row) for row in acts], sorting, 9)
        books = Books(*asked)
        told = verdicts(*asked)
        count = 0
        for table in itertools.product(*[pool(books, path) for path in books.paths]):
            count += 1
            if (walked(*asked, list(table)) is None) != (list(table) == told):
                self.fail((rows, acts, sorting, table))
        return count

    def test_every_table_of_a_pool_for_small_sortings(self):
        count = self.only_the_courts(GENERA, [], [[[[1, 2]]]])
        for acts in ([], ["5 keep 5"], ["5 strike 4"]):
            count += self.only_the_courts(ALBA, acts, [[[[1, 4]], [[5]]]])
            count += self.only_the_courts(ALBA, acts, [[[[1, 5]], [[4]]]])
        self.assertGreater(count, 20000)

    def test_tables_mixed_of_other_books(self):
        chance = random.Random(171)
        early = 0
        for round_ in range(250):
            entries, acts, sorting, day = drawn_trial(chance, 40)
            told = verdicts(entries, acts, sorting, day)
            for turn in range(3):
                other = verdicts(entries, drawn_acts(chance, entries, 20), sorting, chance.randint(1, 14))
                mixed = [chance.choice(pair) for pair in zip(told, other)]
                for table in (other, mixed):
                    found = walked(entries, acts, sorting, day, table)
                    self.assertEqual(found, slow_walked(entries, acts, sorting, day, table))
                    self.assertEqual(found is None, table == told)
                    early += found is not None
        self.assertGreater(early, 200)


class Asked(Refusing):
    def test_no_book_first(self):
        for thing in no_books():
            self.refused(NoBook, walked, thing, Balks(), Balks(), Balks(), [])

    def test_then_no_act(self):
        book = read("\n".join(ROSA))
        for thing in no_lists() + [[None], [keep(9, 99)], [keep(9, 1), keep(8, 1)], [Act(1, "keep", 2)]]:
            self.refused(NoAct, walked, book, thing, Balks(), Balks(), [])
        self.assertEqual(self.refused(NoAct, walked, book, [keep(9, 1), None], None, None, []).place, 1)

    def test_then_no_sorting(self):
        for thing in no_sortings():
            self.refused(NoSorting, walked, read("\n".join(ROSA)), [], thing, Balks(), [])

    def test_then_no_day(self):
        for thing in BAD_DAYS:
            self.refused(NoDay, walked, read("\n".join(ROSA)), [], SORTING, thing, [])
            self.refused(NoDay, walked, [], [], [], thing, [None])

    def test_nothing_that_stands_in_a_table_is_refused(self):
        book = read("\n".join(ROSA))
        for thing in ODD + no_lists():
            self.assertEqual(walked(book, [], SORTING, 9, [thing]), (0,))
            self.assertEqual(walked(book, [], SORTING, 9, [thing] * 4), (0,))
            self.assertEqual(walked(book, [], SORTING, 9, [thing] * 9), (0,))
            self.assertEqual(walked(book, [], [], 9, [thing]), ())

    def test_what_is_handed_in_stays_as_it_was(self):
        for case in cases():
            table, sorting = copy.deepcopy(case.table), copy.deepcopy(case.sorting)
            entries, acts = list(case.entries), list(case.acts)
            walked(entries, acts, sorting, case.day, table)
            walked(entries, acts, sorting, case.day, table[1:])
            self.assertEqual((entries, acts, sorting, table), (case.entries, case.acts, case.sorting, case.table))


if __name__ == "__main__":
    unittest.main()

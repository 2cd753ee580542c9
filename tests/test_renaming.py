import copy
import random
import unittest

from rightname.court import verdicts
from rightname.errors import NoSorting
from rightname.outcomes import tied
from rightname.renaming import names_of, renamed
from rightname.sortings import groups, laid, taken
from tests.cases import cases
from tests.draws import MORE_WORDS, drawn_entry, drawn_trial
from tests.makers import Refusing
from tests.test_sortings import no_sortings


def case_named(name):
    return [case for case in cases() if case.name == name][0]


def all_names(entries, acts, sorting, day):
    return names_of(sorting, verdicts(entries, acts, sorting, day))


class Names(Refusing):
    def named(self, name, told):
        case = case_named(name)
        self.assertEqual(names_of(case.sorting, case.table), told)

    def test_no_sheets(self):
        self.assertEqual(names_of([], []), {})

    def test_groups_that_bear_and_own_ones(self):
        own = (("rosa",), ("rosa", "canina"), ("rosa", "canina", "canina"))
        alba = (("rosa",), ("rosa", "canina"), ("rosa", "canina", "alba"))
        self.named("each rank bears", {1: own, 2: own, 3: alba})

    def test_groups_that_move(self):
        self.named("species and form move", {
            2: (("rubus",), None, None),
            3: (("rubus",), ("rubus", "canina"), ("rubus", "canina", "canina")),
            4: (("rubus",), ("rubus", "canina"), ("rubus", "canina", "alba")),
        })

    def test_groups_that_are_new_or_wait(self):
        none = (None, None, None)
        self.named("no books", {1: none, 2: none, 3: none, 4: none})
        self.named("a day ahead of the species", dict.fromkeys((1, 2, 3), (("rosa",), None, None)))
        self.named("a day ahead of the form", {
            1: (("rosa",), ("rosa", "canina"), ("rosa", "canina", "canina")),
            2: (("rosa",), ("rosa", "canina"), ("rosa", "canina", "canina")),
            3: (("rosa",), ("rosa", "canina"), None),
        })

    def test_each_sheet_by_its_groups(self):
        for case in cases():
            told = names_of(case.sorting, case.table)
            words = {verdict[0]: verdict[2] for verdict in case.table}
            found = {}
            for path, sheets in groups(case.sorting):
                if len(path) == 3:
                    for sheet in sheets:
                        found[sheet] = (words[path[:1]], words[path[:2]], words[path])
            self.assertEqual(told, found)

    def test_new_dicts_and_nothing_changed(self):
        for case in cases():
            sorting, table = copy.deepcopy(case.sorting), copy.deepcopy(case.table)
            first = names_of(sorting, table)
            kept = dict(first)
            first.clear()
            self.assertEqual(names_of(sorting, table), kept)
            self.assertEqual((sorting, table), (case.sorting, case.table))

    def test_what_is_no_sorting(self):
        for thing in no_sortings():
            self.refused(NoSorting, names_of, thing, [])


class Renamed(unittest.TestCase):
    ROSA = (("rosa",), ("rosa", "canina"), ("rosa", "canina", "alba"))
    RUBUS = (("rubus",), ("rubus", "canina"), ("rubus", "canina", "alba"))

    def test_nothing(self):
        self.assertEqual(renamed({}, {}), [])
        self.assertEqual(renamed({1: self.ROSA}, {1: self.ROSA}), [])
        self.assertEqual(renamed({1: (None, None, None)}, {1: (None, None, None)}), [])

    def test_sheets_that_only_one_has(self):
        self.assertEqual(renamed({1: self.ROSA}, {}), [])
        self.assertEqual(renamed({}, {1: self.ROSA}), [])
        self.assertEqual(renamed({1: self.ROSA, 3: self.ROSA}, {2: self.RUBUS, 3: self.ROSA}), [])

    def test_each_rank_by_itself(self):
        for place, rank in enumerate(("genus", "species", "form")):
            for changed in (None, ("x",) * (place + 1)):
                behind = self.ROSA[:place] + (changed,) + self.ROSA[place + 1:]
                self.assertEqual(renamed({7: self.ROSA}, {7: behind}), [(7, rank, self.ROSA[place], changed)])
                self.assertEqual(renamed({7: behind}, {7: self.ROSA}), [(7, rank, changed, self.ROSA[place])])

    def test_several_by_sheet_then_rank(self):
        before = {10: self.ROSA, 2: self.ROSA, 9: (("rosa",), None, None), 5: self.ROSA}
        behind = {9: self.ROSA, 2: self.RUBUS, 5: self.ROSA, 10: self.RUBUS[:1] + self.ROSA[1:]}
        self.assertEqual(renamed(before, behind), [
            (2, "genus", ("rosa",), ("rubus",)),
            (2, "species", ("rosa", "canina"), ("rubus", "canina")),
            (2, "form", ("rosa", "canina", "alba"), ("rubus", "canina", "alba")),
            (9, "species", None, ("rosa", "canina")),
            (9, "form", None, ("rosa", "canina", "alba")),
            (10, "genus", ("rosa",), ("rubus",)),
        ])

    def test_nothing_is_changed(self):
        before, behind = {1: self.ROSA, 2: self.ROSA}, {2: self.RUBUS}
        renamed(before, behind).clear()
        self.assertEqual((before, behind), ({1: self.ROSA, 2: self.ROSA}, {2: self.RUBUS}))
        self.assertEqual(len(renamed(before, behind)), 3)


class Point20(unittest.TestCase):
    def test_an_entry_published_behind_all_others(self):
        chance = random.Random(20)
        seen = {"genus": 0, "species": 0, "form": 0}
        for round_ in range(300):
            entries, acts, sorting, day = drawn_trial(chance, chance.choice((4, 12, 40)))
            last = max([0] + [entry.day for entry in entries])
            number = len(entries) + 1
            for turn in range(4):
                entry = drawn_entry(chance, number, last + chance.randint(0, 1), entries, 12, 0, MORE_WORDS)
                for asked in (1, entry.day - 1, entry.day, entry.day + 3):
                    if asked < 1:
                        continue
                    before = all_names(entries, acts, sorting, asked)
                    behind = all_names(entries + [entry], acts, sorting, asked)
                    found = renamed(before, behind)
                    if asked < entry.day:
                        self.assertEqual(found, [])
                    for sheet, rank, was, now in found:
                        seen[rank] += 1
                        if rank == "genus":
                            self.assertIsNone(was)
        self.assertGreater(min(seen.values()), 5, seen)

    def test_a_sheet_to_which_no_root_is_tied(self):
        chance = random.Random(201)
        count = 0
        for round_ in range(300):
            entries, acts, sorting, day = drawn_trial(chance)
            day_sheets = set(tied([entry for entry in entries if entry.day <= day]).values())
            where = {sheet: path for path, sheets in groups(sorting) if len(path) == 3 for sheet in sheets}
            before = all_names(entries, acts, sorting, day)
            sizes = {path: len(sheets) for path, sheets in groups(sorting)}
            for sheet in range(1, 20):
                if sheet in day_sheets:
                    continue
                if sheet not in where:
                    others = [laid(sorting, sheet, path) for path in sizes if len(path) == 3]
                elif sizes[where[sheet]] > 1:
                    others = [taken(sorting, sheet)]
                else:
                    continue
                for other in others:
                    count += 1
                    self.assertEqual(renamed(before, all_names(entries, acts, other, day)), [])
        self.assertGreater(count, 1000)


if __name__ == "__main__":
    unittest.main()

import copy
import random
import unittest

from rightname.errors import NoPath, NoSheet, NoSorting
from rightname.sortings import groups, laid, path_of, sorting_list, taken
from tests.draws import drawn_sorting
from tests.makers import Refusing
from tests.things import Agrees, Balks, no_lists, no_numbers

# Two genus groups; the first has two species groups, the first of these two form groups.
PILES = [[[[2, 5, 9], [1]], [[7]]], [[[3, 4]]]]
MOST = 10 ** 9
BAD_SHEETS = [0, -1, MOST + 1, 10 ** 30] + no_numbers() + [None]


def piles():
    return copy.deepcopy(PILES)


def lists_in(sorting):
    """All lists at every depth."""
    found = [sorting]
    for part in sorting:
        if isinstance(part, list):
            found += lists_in(part)
    return found


def no_sortings():
    loop = []
    loop.append(loop)
    found = no_lists() + [loop, [loop], [[loop]], tuple(piles())]
    found += [[[]], [[[]]], [[[[]]]], [[[[1]]], []], [[[[1]], []]], [[[[1], []]]], [[], [[[1]]]], [[[], [[1]]]], [[[[], [1]]]]]
    found += [[1], [[1]], [[[1]]], [[[[[1]]]]], [[[[[[1]]]]]], [[[[1]]], [[2]]], [[[[1]], [2]]], [[[[1], 2]]], [[[[1, [2]]]]]]
    for bad in BAD_SHEETS:
        found += [[[[[bad]]]], [[[[1, bad]]]], [[[[bad, 10]]]], [[[[1]]], [[[bad]]]], [[[[5], [bad]]]]]
    for bad in no_lists():
        found += [[bad], [[bad]], [[[bad]]], [[[[1]]], bad], [[[[1]], bad]], [[[[1], bad]]]]
    found += [[[[2, 1]]], [[[[2, 1]]]], [[[[1, 1]]]], [[[[1, 3, 2]]]], [[[[1, 2, 2]]]], [[[[5], [3, 2]]]]]
    found += [[[[[1], [1]]]], [[[[1]], [[1]]]], [[[[1]]], [[[1]]]], [[[[1, 2], [3]], [[4, 5], [2]]]], [[[[1, 9]]], [[[9, 10]]]]]
    found += [[((1,),)], [[[(1,)]]], [([[1]],)], [[([1],)]]]
    return found


class SortingList(Refusing):
    def test_good_ones(self):
        for sorting in (
            [], [[[[1]]]], [[[[MOST]]]], [[[[1, MOST]]]], piles(), [[[[3]]], [[[2]]], [[[1]]]], [[[[3]], [[2]], [[1]]]],
            [[[[3], [2], [1]]]], [[[[4, 9], [2, 7]], [[1, 8]]]],
        ):
            self.assertEqual(sorting_list(sorting), sorting)

    def test_new_lists_at_every_depth(self):
        sorting = piles()
        told = sorting_list(sorting)
        theirs = [id(part) for part in lists_in(sorting)]
        self.assertEqual(len(lists_in(told)), len(theirs))
        for part in lists_in(told):
            self.assertNotIn(id(part), theirs)
        for part in lists_in(told):
            part.clear()
        self.assertEqual(sorting, PILES)
        told = sorting_list(sorting)
        for part in lists_in(sorting):
            part.clear()
        self.assertEqual(told, PILES)

    def test_one_list_twice_is_no_sorting_but_alike_ones_of_other_sheets_are(self):
        part = [[[1]]]
        self.refused(NoSorting, sorting_list, [part, part])
        self.assertEqual(sorting_list([[[[1]]], [[[2]]]]), [[[[1]]], [[[2]]]])

    def test_what_is_no_sorting(self):
        for thing in no_sortings():
            self.refused(NoSorting, sorting_list, thing)
            self.refused(NoSorting, groups, thing)
            for sheet in (1, 0, Balks()):
                self.refused(NoSorting, path_of, thing, sheet)
                self.refused(NoSorting, taken, thing, sheet)
                for path in ((0,), None, Balks()):
                    self.refused(NoSorting, laid, thing, sheet, path)

    def test_many_sheets(self):
        sorting = [[[list(range(1, 501))]]] + [[[[sheet]]] for sheet in range(501, 801)]
        self.assertEqual(sorting_list(sorting), sorting)


class Groups(unittest.TestCase):
    def test_the_sorting_without_groups(self):
        self.assertEqual(groups([]), [])

    def test_one_group_of_each_rank(self):
        self.assertEqual(groups([[[[4]]]]), [((0,), [4]), ((0, 0), [4]), ((0, 0, 0), [4])])

    def test_several(self):
        self.assertEqual(groups(piles()), [
            ((0,), [1, 2, 5, 7, 9]),
            ((0, 0), [1, 2, 5, 9]), ((0, 0, 0), [2, 5, 9]), ((0, 0, 1), [1]),
            ((0, 1), [7]), ((0, 1, 0), [7]),
            ((1,), [3, 4]), ((1, 0), [3, 4]), ((1, 0, 0), [3, 4]),
        ])

    def test_places_from_ten_on_go_by_number(self):
        told = groups([[[[sheet] for sheet in range(1, 13)]]])
        self.assertEqual([path for path, sheets in told][2:], [(0, 0, place) for place in range(12)])

    def test_drawn_ones(self):
        chance = random.Random(11)
        for round_ in range(100):
            sorting = drawn_sorting(chance)
            told = groups(sorting)
            paths = [path for path, sheets in told]
            self.assertEqual(paths, sorted(set(paths)))
            for path, sheets in told:
                part = sorting
                for place in path:
                    part = part[place]
                flat = part
                for depth in range(3 - len(path)):
                    flat = [sheet for inner in flat for sheet in inner]
                self.assertEqual(sheets, sorted(flat))
                self.assertTrue(sheets)
            count = sum(1 + len(kind) + sum(map(len, kind)) for kind in sorting)
            self.assertEqual(len(told), count)

    def test_new_lists(self):
        sorting = piles()
        for path, sheets in groups(sorting):
            sheets.clear()
        self.assertEqual(sorting, PILES)
        told = groups(sorting)
        for part in lists_in(sorting):
            part.clear()
        self.assertEqual(told, groups(PILES))


class PathOf(Refusing):
    def test_each_place(self):
        paths = {2: (0, 0, 0), 5: (0, 0, 0), 9: (0, 0, 0), 1: (0, 0, 1), 7: (0, 1, 0), 3: (1, 0, 0), 4: (1, 0, 0)}
        for sheet, path in paths.items():
            self.assertEqual(path_of(piles(), sheet), path)

    def test_nowhere(self):
        for sheet in (6, 8, 10, MOST):
            self.assertIsNone(path_of(piles(), sheet))
        self.assertIsNone(path_of([], 1))

    def test_what_is_no_sheet(self):
        for thing in BAD_SHEETS:
            self.refused(NoSheet, path_of, piles(), thing)
            self.refused(NoSheet, path_of, [], thing)


class Laid(Refusing):
    def laid(self, sheet, path, told, sorting=PILES):
        handed = copy.deepcopy(sorting)
        with self.subTest(sheet=sheet, path=path):
            found = laid(handed, sheet, path)
            self.assertEqual(found, told)
            self.assertEqual(handed, sorting)
            for part in lists_in(found):
                part.clear()
            self.assertEqual(handed, sorting)

    def test_into_a_form_group(self):
        self.laid(1, (0, 0, 0), [[[[1, 2]]]], [[[[2]]]])
        self.laid(6, (0, 0, 0), [[[[2, 5, 6, 9], [1]], [[7]]], [[[3, 4]]]])
        self.laid(10, (0, 0, 0), [[[[2, 5, 9, 10], [1]], [[7]]], [[[3, 4]]]])
        self.laid(6, (0, 1, 0), [[[[2, 5, 9], [1]], [[6, 7]]], [[[3, 4]]]])
        self.laid(MOST, (1, 0, 0), [[[[2, 5, 9], [1]], [[7]]], [[[3, 4, MOST]]]])

    def test_into_a_new_group(self):
        self.laid(6, (2,), PILES + [[[[6]]]])
        self.laid(6, (0, 2), [[[[2, 5, 9], [1]], [[7]], [[6]]], [[[3, 4]]]])
        self.laid(6, (1, 1), [[[[2, 5, 9], [1]], [[7]]], [[[3, 4]], [[6]]]])
        self.laid(6, (0, 0, 2), [[[[2, 5, 9], [1], [6]], [[7]]], [[[3, 4]]]])
        self.laid(6, (0, 1, 1), [[[[2, 5, 9], [1]], [[7], [6]]], [[[3, 4]]]])
        self.laid(6, (0,), [[[[6]]]], [])

    def test_a_last_place_beyond_the_count_or_ahead_of_it(self):
        for path in ((3,), (10 ** 30,), (0,), (1,), (0, 3), (0, 0), (0, 1), (1, 0), (1, 2), (0, 0, 3), (0, 1, 2), (1, 0, 2)):
            self.refused(NoPath, laid, piles(), 6, path)
        for path in ((1,), (0, 0), (0, 0, 0)):
            self.refused(NoPath, laid, [], 6, path)

    def test_an_earlier_place_that_is_the_count_or_beyond(self):
        for path in ((2, 0), (2, 0, 0), (0, 2, 0), (1, 1, 0), (9, 0), (0, 9, 0), (9, 0, 0)):
            self.refused(NoPath, laid, piles(), 6, path)

    def test_what_is_no_path(self):
        odd = [
            (), (0, 0, 0, 0), (0, 0, 0, 3), (-1,), (0, -1), (0, 0, -1), (-1, 0, 0), (0, -1, 0), (-2, 1),
            (True,), (False,), (0, True), (0, 0, True), (0, 0, False), (False, 0, 0), (True, 0, 1), (0, False, 0),
            (2.0,), (0.0, 0, 0), ("2",), (None,), (0, None, 0), ((2,),), (Agrees(),), (Balks(),), (0, 0, Balks()), (Agrees(), 0, 0),
            [2], [0, 0, 0], "2", "0.0.0", {2: 2}, 2,
        ]
        for path in odd + no_lists() + [[]]:
            self.refused(NoPath, laid, piles(), 6, path)
            self.refused(NoPath, laid, piles(), 5, path)
            self.refused(NoPath, laid, [], 6, path)

    def test_what_is_no_sheet_goes_ahead_of_no_path(self):
        for thing in BAD_SHEETS:
            self.refused(NoSheet, laid, piles(), thing, (0, 0, 0))
            self.refused(NoSheet, laid, piles(), thing, Balks())

    def test_moved_to_another_group(self):
        self.laid(5, (0, 1, 0), [[[[2, 9], [1]], [[5, 7]]], [[[3, 4]]]])
        self.laid(9, (2,), [[[[2, 5], [1]], [[7]]], [[[3, 4]]], [[[9]]]])
        self.laid(2, (0, 0, 2), [[[[5, 9], [1], [2]], [[7]]], [[[3, 4]]]])

    def test_moved_to_the_group_where_it_lies(self):
        self.laid(5, (0, 0, 0), PILES)
        self.laid(3, (1, 0, 0), PILES)

    def test_moved_out_of_a_group_that_ends_by_it(self):
        # The paths behind move up: what was the second species group is the first one.
        self.laid(1, (0, 0, 0), [[[[1, 7]]]], [[[[1]], [[7]]]])
        self.laid(1, (0, 1), [[[[7]], [[1]]]], [[[[1]], [[7]]]])
        self.laid(1, (0, 0, 0), [[[[1, 3, 4]]]], [[[[1]]], [[[3, 4]]]])
        self.laid(7, (0, 1), PILES)
        self.laid(1, (0, 0, 1), PILES)
        self.laid(1, (0,), [[[[1]]]], [[[[1]]]])
        self.laid(1, (1,), [[[[3]]], [[[1]]]], [[[[1]]], [[[3]]]])

    def test_moved_to_a_path_that_is_none_in_what_is_left(self):
        for sorting, sheet, path in (
            ([[[[1]]]], 1, (1,)), ([[[[1]]]], 1, (0, 0, 0)), ([[[[1]]]], 1, (0, 1)), ([[[[1]]]], 1, (0, 0, 1)),
            ([[[[1]]], [[[3]]]], 1, (2,)), ([[[[1]]], [[[3]]]], 1, (1, 0, 0)), ([[[[1]]], [[[3]]]], 3, (1, 0, 0)),
            ([[[[1]], [[7]]]], 1, (0, 2)), ([[[[1]], [[7]]]], 7, (0, 1, 0)), ([[[[1], [7]]]], 7, (0, 0, 2)),
        ):
            kept = copy.deepcopy(sorting)
            self.refused(NoPath, laid, sorting, sheet, path)
            self.assertEqual(sorting, kept)


class Taken(Refusing):
    def taken(self, sheet, told, sorting=PILES):
        handed = copy.deepcopy(sorting)
        found = taken(handed, sheet)
        self.assertEqual(found, told)
        self.assertEqual(handed, sorting)
        for part in lists_in(found):
            part.clear()
        self.assertEqual(handed, sorting)

    def test_from_a_form_group_that_has_others(self):
        self.taken(2, [[[[5, 9], [1]], [[7]]], [[[3, 4]]]])
        self.taken(5, [[[[2, 9], [1]], [[7]]], [[[3, 4]]]])
        self.taken(9, [[[[2, 5], [1]], [[7]]], [[[3, 4]]]])

    def test_the_last_one_of_a_form_a_species_and_a_genus_group(self):
        self.taken(1, [[[[2, 5, 9]], [[7]]], [[[3, 4]]]])
        self.taken(7, [[[[2, 5, 9], [1]]], [[[3, 4]]]])
        self.taken(3, [[[[7]]]], [[[[3]]], [[[7]]]])
        self.taken(3, [], [[[[3]]]])

    def test_those_behind_move_up(self):
        self.assertEqual(path_of(taken([[[[1], [2]]]], 1), 2), (0, 0, 0))
        self.assertEqual(path_of(taken([[[[1]], [[2]]]], 1), 2), (0, 0, 0))
        self.assertEqual(path_of(taken([[[[1]]], [[[2]]]], 1), 2), (0, 0, 0))

    def test_one_that_lies_nowhere(self):
        for sheet in (6, 8, MOST):
            self.refused(NoSheet, taken, piles(), sheet)
        self.refused(NoSheet, taken, [], 1)

    def test_what_is_no_sheet(self):
        for thing in BAD_SHEETS:
            self.refused(NoSheet, taken, piles(), thing)

    def test_drawn_ones(self):
        chance = random.Random(12)
        for round_ in range(100):
            sorting = drawn_sorting(chance)
            for path, sheets in groups(sorting):
                if len(path) < 3:
                    continue
                for sheet in sheets:
                    left = taken(sorting, sheet)
                    self.assertEqual(sorting_list(left), left)
                    self.assertIsNone(path_of(left, sheet))
                    kept = sorted(one for deep, them in groups(sorting) if len(deep) == 3 for one in them)
                    kept.remove(sheet)
                    self.assertEqual(sorted(one for deep, them in groups(left) if len(deep) == 3 for one in them), kept)
                    if len(sheets) > 1:
                        self.assertEqual(laid(left, sheet, path), sorting)
                        self.assertEqual(laid(sorting, sheet, path), sorting)


if __name__ == "__main__":
    unittest.main()

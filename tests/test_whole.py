"""Point 3, the promise of the whole, by books, acts, sortings and days that are drawn."""

import random
import unittest

from rightname.clerk import Clerk
from rightname.court import verdicts
from rightname.errors import NoPath
from rightname.outcomes import tied
from rightname.sortings import groups, laid, path_of, taken
from rightname.walking import walked
from tests.draws import MORE_WORDS, drawn_acts, drawn_entry, drawn_sorting, drawn_trial
from tests.test_clerk import clerk_of

ROUNDS = 150


def trials(seed):
    chance = random.Random(seed)
    return [(chance,) + drawn_trial(chance, chance.choice((10, 40, 70, 100))) for round_ in range(ROUNDS)]


def within(table, place):
    """What a table tells within one genus group, as if it were the first."""
    return [((0,) + verdict[0][1:],) + verdict[1:] for verdict in table if verdict[0][0] == place]


def names(table):
    return [(len(verdict[0]), verdict[2]) for verdict in table if verdict[2] is not None]


class Promise(unittest.TestCase):
    def test_each_group_has_one_verdict_a_name_or_the_word_why_it_has_none(self):
        for chance, entries, acts, sorting, day in trials(31):
            table = verdicts(entries, acts, sorting, day)
            self.assertEqual([verdict[0] for verdict in table], [path for path, sheets in groups(sorting)])
            for path, state, words, number, papers in table:
                if state in ("new", "waits"):
                    self.assertEqual((words, number), (None, None))
                else:
                    self.assertIn(state, ("bears", "moves", "own"))
                    self.assertEqual(len(words), len(path))

    def test_the_courts_table_passes_the_walk_and_another_one_does_not(self):
        for chance, entries, acts, sorting, day in trials(32):
            table = verdicts(entries, acts, sorting, day)
            self.assertIsNone(walked(entries, acts, sorting, day, table))
            other = verdicts(entries, drawn_acts(chance, entries, 12), sorting, chance.randint(1, 14))
            self.assertEqual(walked(entries, acts, sorting, day, other) is None, other == table)

    def test_no_two_groups_of_one_rank_bear_one_name(self):
        count = 0
        for chance, entries, acts, sorting, day in trials(33):
            told = names(verdicts(entries, acts, sorting, day))
            self.assertEqual(len(told), len(set(told)))
            count += len(told)
        self.assertGreater(count, 300)

    def test_a_genus_group_hangs_on_the_books_and_itself_alone(self):
        count = 0
        for chance, entries, acts, sorting, day in trials(34):
            table = verdicts(entries, acts, sorting, day)
            for place, group in enumerate(sorting):
                alone = verdicts(entries, acts, [group], day)
                self.assertEqual(within(table, place), alone)
                mine = {sheet for path, sheets in groups([group]) for sheet in sheets}
                free = [other for other in drawn_sorting(chance)
                        if not mine & {sheet for path, sheets in groups([other]) for sheet in sheets}]
                at = chance.randint(0, len(free))
                self.assertEqual(within(verdicts(entries, acts, free[:at] + [group] + free[at:], day), at), alone)
                count += 1
        self.assertGreater(count, 150)

    def test_a_genus_that_bears_a_name_bears_it_whatever_is_published_later(self):
        borne = 0
        for chance, entries, acts, sorting, day in trials(35):
            day = max([day] + [entry.day for entry in entries] + [act.day for act in acts])
            table = verdicts(entries, acts, sorting, day)
            later, last, number = list(entries), day, len(entries)
            for step in range(15):
                last += chance.randint(0, 2)
                number += 1
                later.append(drawn_entry(chance, number, last, later, 12, 0.05, MORE_WORDS))
            behind = verdicts(later, acts, sorting, last)
            for was, now in zip(table, behind):
                if was[1] == "bears" and len(was[0]) == 1:
                    self.assertEqual(now[:4], was[:4])
                    borne += 1
        self.assertGreater(borne, 80)

    def test_a_sheet_without_ties_changes_no_name_but_by_making_or_ending_a_group(self):
        count = 0
        for chance, entries, acts, sorting, day in trials(36):
            free = [sheet for sheet in range(1, 30) if sheet not in tied(entries).values()]
            for sheet in free:
                path = path_of(sorting, sheet)
                without = sorting if path is None else taken(sorting, sheet)
                table = verdicts(entries, acts, without, day)
                forms = [told[0] for told in table if len(told[0]) == 3]
                for form in chance.sample(forms, min(2, len(forms))):
                    self.assertEqual(verdicts(entries, acts, laid(without, sheet, form), day), table)
                    count += 1
                # A group that it makes has no name, and those that were there have theirs.
                made = verdicts(entries, acts, laid(without, sheet, (len(without),)), day)
                self.assertEqual(made[:len(table)], table)
                self.assertEqual([told[1] for told in made[len(table):]], ["new", "waits", "waits"])
        self.assertGreater(count, 500)

    def test_court_and_clerk_tell_the_same_of_every_day(self):
        for chance, entries, acts, sorting, day in trials(37)[:60]:
            clerk = clerk_of(entries, acts, sorting)
            for asked in list(range(1, 17)) + [10 ** 6]:
                self.assertEqual(clerk.verdicts(asked), verdicts(entries, acts, sorting, asked))

    def test_of_days_gone_by_too_while_books_and_sheets_change(self):
        chance = random.Random(38)
        for round_ in range(12):
            entries, acts, sorting, day = drawn_trial(chance, 60)
            clerk = Clerk()
            acts = list(acts)
            for entry in entries:
                while acts and acts[0].day < entry.day:
                    clerk.enter(acts.pop(0))
                clerk.publish(entry)
                try:
                    clerk.lay(chance.randint(1, 14), tuple(chance.choice((0, 0, 1)) for place in range(chance.randint(1, 3))))
                except NoPath:
                    pass
                for asked in range(1, entry.day + 2):
                    self.assertEqual(
                        clerk.verdicts(asked), verdicts(clerk.book(), clerk.acts(), clerk.sorting(), asked))


if __name__ == "__main__":
    unittest.main()

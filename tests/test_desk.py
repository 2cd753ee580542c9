import random
import unittest

from rightname.acts import standings
from rightname.basics import RANKS
from rightname.court import verdicts
from rightname.desk import Desk
from rightname.errors import Late, NoAct, NoEntry, NoPath, NoRow, NoSheet, RightError
from rightname.outcomes import outcomes
from rightname.reader import read
from rightname.renaming import names_of
from rightname.sortings import laid, path_of, taken
from rightname.writer import entry_row, written
from tests.cases import cases
from tests.draws import drawn_trial
from tests.makers import Refusing
from tests.test_clerk import first_path
from tests.test_rows import bad_rows
from tests.things import no_texts

ROWS = (
    ("publish 1 1 genus rosa tied 1", "right"),
    ("publish 1 2 genus rubus tied 2", "right"),
    ("publish 2 3 species canina under 1 tied 3", "right"),
    ("publish 3 4 form alba under 3 tied 4", "right"),
    ("publish 3 5 genus malus tied 5 bare", "undescribed"),
    ("publish 4 6 species canina under 2 of 3", "right"),
    ("lay 1 0", "ok"),
    ("lay 3 0.0.0", "ok"),
    ("lay 4 0.0.1", "ok"),
    ("lay 9 0.1", "ok"),
    ("lay 8 1", "ok"),
    ("act 5 keep 3", "ok"),
)


def full_desk():
    desk = Desk()
    for row, answer in ROWS:
        desk.say(row)
    return desk


def answers(desk):
    """All that a desk tells of the numbers, sheets and days near to those of the tests."""
    found = [desk.say("book")]
    for number in range(1, 11):
        for row in [f"out {number}"] + [f"{word} {number} {day}" for word in ("name", "why") for day in (1, 2, 3, 6)]:
            try:
                found.append(desk.say(row))
            except RightError as error:
                found.append(type(error))
    return found


def rows_of(entries, acts, sorting):
    found = ["publish " + entry_row(entry) for entry in entries]
    found += [f"act {act.day} {act.deed} {act.number}" for act in acts]
    for place, kind in enumerate(sorting):
        for inner, group in enumerate(kind):
            for deep, sheets in enumerate(group):
                for at, sheet in enumerate(sheets):
                    path = (place, inner, deep)
                    path = first_path(path) if at == 0 else path
                    found.append(f"lay {sheet} " + ".".join(map(str, path)))
    return found


class Saying(Refusing):
    def said(self, desk, *pairs):
        for row, answer in pairs:
            with self.subTest(row=row):
                self.assertEqual(desk.say(row), answer)

    def refused_by(self, desk, kind, row):
        kept = answers(desk)
        told = self.refused(kind, desk.say, row)
        self.assertEqual(answers(desk), kept)
        return told


class Answers(Saying):
    def test_the_rows_of_a_full_desk(self):
        self.said(Desk(), *ROWS)

    def test_each_outcome_of_publish(self):
        self.said(
            Desk(),
            ("publish 1 1 genus rosa tied 1", "right"), ("publish 1 2 genus rubus tied 1 bare", "undescribed"),
            ("publish 1 3 species a under 9 tied 1", "unplaced"), ("publish 1 4 species a under 1 of 9", "baseless"),
            ("publish 1 5 species a under 1 tied 1", "right"), ("publish 1 6 species b under 1 of 5", "reworded"),
            ("publish 2 7 genus rosa tied 1", "alike"))

    def test_each_deed(self):
        desk = Desk()
        self.said(
            desk, ("publish 1 1 genus rosa tied 1", "right"), ("publish 1 2 genus rubus tied 2", "right"),
            ("lay 1 0", "ok"), ("lay 2 0.0.0", "ok"), ("name 1 5", "rosa; -; -"), ("act 2 keep 2", "ok"),
            ("name 1 1", "rosa; -; -"), ("name 1 2", "rubus; -; -"), ("act 3 strike 2", "ok"), ("name 1 3", "rosa; -; -"),
            ("act 4 strike 1", "ok"), ("name 1 4", "-; -; -"), ("act 5 leave 2", "ok"), ("name 1 5", "rubus; -; -"))

    def test_book(self):
        desk = Desk()
        self.said(desk, ("book", ""))
        rows = [row[len("publish "):] for row, answer in ROWS if row.startswith("publish")]
        self.said(full_desk(), ("book", "\n".join(rows)))

    def test_out(self):
        self.said(
            full_desk(), ("out 1", "right"), ("out 3", "right"), ("out 4", "right"), ("out 5", "undescribed"),
            ("out 6", "right"))

    def test_name(self):
        self.said(
            full_desk(),
            ("name 3 9", "rosa; rosa canina; rosa canina canina"), ("name 1 9", "rosa; rosa canina; rosa canina canina"),
            ("name 4 9", "rosa; rosa canina; rosa canina alba"), ("name 4 2", "rosa; rosa canina; -"),
            ("name 4 1", "rosa; -; -"), ("name 9 9", "rosa; -; -"), ("name 8 9", "-; -; -"))

    def test_why(self):
        desk = full_desk()
        self.said(
            desk, ("why 1 9", "right 0"), ("why 3 9", "right 0.0"), ("why 4 9", "right 0.0.1"), ("why 2 9", "nowhere"),
            ("why 3 2", "right 0.0"), ("why 1 1", "right 0"))
        self.said(
            desk, ("lay 2 0.0.0", "ok"), ("why 2 9", "0 later 1"), ("act 6 strike 1", "ok"), ("why 1 5", "right 0"),
            ("why 1 6", "0 struck -"), ("why 2 6", "right 0"), ("why 3 6", "right 0.0"), ("act 6 strike 2", "ok"),
            ("why 3 6", "0.0 waits"), ("why 4 6", "0.0.1 waits"), ("take 4", "ok"), ("why 4 6", "nowhere"),
            ("lay 4 0.0.0", "ok"), ("why 4 5", "0.0.0 own 3"))

    def test_why_of_each_reason_in_each_case(self):
        """Each root of each case: by its paper, or right, or it waits, or it lies nowhere."""
        seen = set()
        for case in cases():
            desk = Desk()
            for row in rows_of(case.entries, case.acts, case.sorting):
                desk.say(row)
            for number in standings(case.entries, case.acts, case.day):
                root = [entry for entry in case.entries if entry.number == number][0]
                path = path_of(case.sorting, root.sheet)
                told = "nowhere"
                if path is not None:
                    path = path[:RANKS.index(root.rank) + 1]
                    place = ".".join(map(str, path))
                    verdict = [one for one in case.table if one[0] == path][0]
                    papers = [paper for paper in verdict[4] if paper[0] == number]
                    told = f"right {place}"
                    if papers:
                        told = f"{place} {papers[0][1]} {papers[0][2] or '-'}"
                    if verdict[1] == "waits":
                        told = f"{place} waits"
                with self.subTest(case=case.name, number=number):
                    self.assertEqual(desk.say(f"why {number} {case.day}"), told)
                seen.update(told.split(" "))
        self.assertLessEqual(
            {"right", "nowhere", "waits", "struck", "later", "same", "booked", "taken", "own", "-"}, seen)

    def test_lay_and_take_move_sheets(self):
        desk = full_desk()
        self.said(desk, ("lay 9 0.0.0", "ok"), ("name 9 9", "rosa; rosa canina; rosa canina canina"))
        self.said(desk, ("lay 9 2", "ok"), ("name 9 9", "-; -; -"), ("take 9", "ok"))
        self.refused_by(desk, NoSheet, "name 9 9")
        self.said(desk, ("lay 9 0.0.2", "ok"), ("name 9 9", "rosa; rosa canina; -"))

    def test_days_gone_by(self):
        desk = full_desk()
        kept = answers(desk)
        self.assertEqual(desk.say("publish 7 10 species canina under 1 tied 9"), "alike")
        self.assertEqual(desk.say("publish 7 11 form alba under 6 of 4"), "right")
        # The book has grown, and number 10 is there now; all else is as it was.
        changed = [(was, now) for was, now in zip(kept[1:], answers(desk)[1:]) if was != now]
        self.assertEqual(changed, [(NoEntry, "alike")])

    def test_each_desk_has_a_clerk_of_its_own(self):
        one, other = full_desk(), Desk()
        self.assertEqual(other.say("book"), "")
        self.assertNotEqual(one.say("book"), "")


class Drawn(Saying):
    def test_as_the_stages_tell_it(self):
        chance = random.Random(210)
        for round_ in range(25):
            entries, acts, sorting, day = drawn_trial(chance)
            entries = read(written(entries))
            desk = Desk()
            outs = outcomes(entries)
            told = [desk.say(row) for row in rows_of(entries, acts, sorting)]
            self.assertEqual(told[:len(entries)], [outs[entry.number] for entry in entries])
            self.assertEqual(set(told[len(entries):]) - {"ok"}, set())
            self.assertEqual(desk.say("book"), written(entries))
            for asked in (1, day, 14):
                names = names_of(sorting, verdicts(entries, acts, sorting, asked))
                for sheet in names:
                    parts = [" ".join(words) if words else "-" for words in names[sheet]]
                    self.assertEqual(desk.say(f"name {sheet} {asked}"), "; ".join(parts))


class Refusals(Saying):
    def test_rows_that_are_none(self):
        desk = full_desk()
        kept = answers(desk)
        for row in bad_rows():
            with self.assertRaises(NoRow) as caught:
                desk.say(row)
            self.assertIs(type(caught.exception), NoRow)
        self.assertEqual(answers(desk), kept)

    def test_things_that_are_no_texts(self):
        desk = full_desk()
        for thing in no_texts() + [None, ["book"], b"book", ("book", [])]:
            self.refused_by(desk, NoRow, thing)

    def test_late_ones(self):
        desk = full_desk()
        for row in (
            "publish 3 9 genus pyrus tied 1", "publish 4 5 genus pyrus tied 1", "publish 4 6 genus pyrus tied 1",
            "publish 9 6 genus pyrus tied 1", "publish 9 5 genus malus tied 5", "publish 1 7 genus pyrus tied 1 bare",
        ):
            self.refused_by(desk, Late, row)
        self.assertEqual(desk.say("publish 4 7 genus pyrus tied 1"), "right")

    def test_acts_that_are_none(self):
        desk = full_desk()
        for row in (
            "act 9 keep 99", "act 9 keep 5", "act 9 keep 6", "act 4 keep 1", "act 1 strike 3", "act 9 leave 1000000000",
        ):
            self.assertEqual(self.refused_by(desk, NoAct, row).place, 1)
        self.assertEqual(self.refused_by(Desk(), NoAct, "act 1 keep 1").place, 0)

    def test_paths_that_lead_nowhere(self):
        desk = full_desk()
        for row in ("lay 7 0", "lay 7 1", "lay 7 3", "lay 7 0.0", "lay 7 0.3", "lay 7 2.0", "lay 7 0.0.3", "lay 7 0.2.0",
                    "lay 7 1000000000", "lay 8 2", "lay 8 1.0.0", "lay 9 0.2", "lay 4 0.0.2"):
            self.refused_by(desk, NoPath, row)

    def test_sheets_that_lie_nowhere(self):
        desk = full_desk()
        for sheet in (2, 7, 10 ** 9):
            self.refused_by(desk, NoSheet, f"take {sheet}")
            self.refused_by(desk, NoSheet, f"name {sheet} 9")
        self.refused_by(Desk(), NoSheet, "take 1")
        self.refused_by(Desk(), NoSheet, "name 1 1")

    def test_numbers_that_no_entry_has(self):
        desk = full_desk()
        for number in (7, 99, 10 ** 9):
            self.refused_by(desk, NoEntry, f"out {number}")
            self.refused_by(desk, NoEntry, f"why {number} 9")
        self.refused_by(Desk(), NoEntry, "out 1")
        self.refused_by(Desk(), NoEntry, "why 1 1")

    def test_numbers_that_no_root_of_that_day_has(self):
        desk = full_desk()
        for row in ("why 5 9", "why 6 9", "why 3 1", "why 4 2", "why 4 1"):
            self.refused_by(desk, NoEntry, row)
        self.assertEqual(desk.say("why 4 3"), "right 0.0.1")

    def test_no_row_goes_first(self):
        desk = Desk()
        for row in ("out 0", "why 1 0", "why 0 1", "name 1 0", "take 0", "lay 0 9.9", "lay 1 00", "act 1 drop 9", "act 0 keep 9"):
            self.refused_by(desk, NoRow, row)
        self.refused_by(full_desk(), NoRow, "publish 1 1 genus rosa tied 0")
        self.refused_by(full_desk(), NoRow, "publish 1 1 genus rosa under 1 tied 1")

    def test_refused_rows_between_good_ones_change_no_answer(self):
        chance = random.Random(211)
        bad = bad_rows()
        for round_ in range(5):
            plain, mixed = Desk(), Desk()
            for row, answer in ROWS:
                for turn in range(5):
                    with self.assertRaises(NoRow):
                        mixed.say(chance.choice(bad))
                for worse in ("publish 1 1 genus rosa tied 1", "act 1 keep 77", "lay 1 9.9", "take 77", "out 77", "why 77 1"):
                    if plain.say("book") or not worse.startswith("publish"):
                        with self.assertRaises(RightError):
                            mixed.say(worse)
                self.assertEqual(plain.say(row), mixed.say(row))
                self.assertEqual(answers(plain), answers(mixed))


class Sorting(Saying):
    def test_sheets_as_laid_and_taken(self):
        chance = random.Random(212)
        desk, sorting = Desk(), []
        for step in range(400):
            sheet = chance.randint(1, 9)
            path = tuple(chance.choice((0, 0, 1, 2)) for place in range(chance.choice((1, 2, 3, 3))))
            row = f"lay {sheet} " + ".".join(map(str, path))
            if chance.random() < 0.2:
                row, path = f"take {sheet}", None
            try:
                sorting = taken(sorting, sheet) if path is None else laid(sorting, sheet, path)
                self.assertEqual(desk.say(row), "ok")
            except RightError as error:
                self.refused(type(error), desk.say, row)
            for one in range(1, 10):
                try:
                    self.assertEqual(desk.say(f"name {one} 1"), "-; -; -")
                    lies = True
                except NoSheet:
                    lies = False
                self.assertEqual(lies, path_of(sorting, one) is not None)


if __name__ == "__main__":
    unittest.main()

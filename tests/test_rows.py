import random
import unittest

from rightname.entries import Entry
from rightname.errors import NoRow
from rightname.rows import row_of
from tests.makers import Refusing, fields
from tests.test_reader import GOOD as ENTRY_ROWS
from tests.test_reader import bad_rows as bad_entry_rows
from tests.test_writer import ROWS
from tests.things import no_texts

MOST = 10 ** 9

# Rows beside what they are read as.
SIMPLE = (
    ("act 5 keep 3", ("act", [5, "keep", 3])),
    ("act 1 strike 1", ("act", [1, "strike", 1])),
    ("act 1000000 leave 1000000000", ("act", [10 ** 6, "leave", MOST])),
    ("lay 5 0", ("lay", [5, (0,)])),
    ("lay 5 2", ("lay", [5, (2,)])),
    ("lay 1 0.2", ("lay", [1, (0, 2)])),
    ("lay 7 0.2.1", ("lay", [7, (0, 2, 1)])),
    ("lay 1000000000 10.0.1000000000", ("lay", [MOST, (10, 0, MOST)])),
    ("lay 1 1000000000", ("lay", [1, (MOST,)])),
    ("take 5", ("take", [5])),
    ("take 1000000000", ("take", [MOST])),
    ("name 5 9", ("name", [5, 9])),
    ("name 1000000000 1000000", ("name", [MOST, 10 ** 6])),
    ("why 5 9", ("why", [5, 9])),
    ("why 1000000000 1000000", ("why", [MOST, 10 ** 6])),
    ("book", ("book", [])),
    ("out 5", ("out", [5])),
    ("out 1000000000", ("out", [MOST])),
)
GOOD = [row for row, told in SIMPLE] + ["publish " + row for row in ENTRY_ROWS]


def number_places(row):
    """Each place of a row's words at which a number stands, with the greatest one there."""
    word = row.split(" ")[0]
    kinds = {
        "act": (10 ** 6, None, MOST), "lay": (MOST, None), "take": (MOST,), "name": (MOST, 10 ** 6),
        "why": (MOST, 10 ** 6), "book": (), "out": (MOST,),
    }
    return [(at + 1, most) for at, most in enumerate(kinds[word]) if most is not None]


def bad_paths():
    return [
        "", ".", "..", "...", ".0", "0.", "0..0", ".0.0", "0.0.", "0..0.0", "0.0.0.0", "0.0.0.", ".0.0.0", "0.0..0",
        "00", "01", "0.01", "00.0", "0.0.00", "010", "1000000001", "0.1000000001", "0.0.1000000001", "1000000001.0.0",
        "-1", "0.-1", "+1", "0.+1", "a", "0.a", "0,1", "0:1", "0-1", "0/1", "(0,)", "0.0.x", "1e3", "1_0", "9" * 5000,
        "0\t", "\t0", "0\n", "None", "True",
    ]


def bad_rows():
    found = ["", " ", "\n", "\t", "x", "Book", "BOOK", "books", "boo", "say", "help", "none", "publish", "publish ", "0", "-"]
    for row in GOOD:
        words = row.split(" ")
        found += [" " + row, row + " ", row + "  ", "\t" + row, row + "\t", row + "\n", "\n" + row, row + "\r", row + "\n" + row]
        found += [row + " 1", row + " x", "1 " + row, row.upper(), row.capitalize(), "x" + row, row + "x"]
        for at in range(1, len(words)):
            for gap in ("  ", "\t", " \t", "\n", "", ",", "_"):
                found.append(" ".join(words[:at]) + gap + " ".join(words[at:]))
            found.append(" ".join(words[:at] + words[at + 1:]))
            found.append(" ".join(words[:at]))
            found.append(" ".join(words[:at] + ["1"] + words[at:]))
    for row, told in SIMPLE:
        words = row.split(" ")
        for at, most in number_places(row):
            for bad in ("0", "00", "01", "-1", "+1", "1.0", "1_0", "x", "", "1x", str(most + 1), "9" * 30, "9" * 5000):
                found.append(" ".join(words[:at] + [bad] + words[at + 1:]))
    for deed in ("", "Keep", "KEEP", "kept", "keeps", "kee", "drop", "strikes", "left", "1", "keep\n", "\tkeep"):
        found.append("act 5 " + deed + " 3")
    found += ["lay 5 " + path for path in bad_paths()]
    found += ["publish " + row for row in bad_entry_rows()]
    found += ["act keep 5 3", "act 5 3 keep", "lay 0.0 5", "lay 0.0.0 5"]
    # Taking bare away leaves rows that are good.
    return [row for row in found if row not in GOOD]


class Read(unittest.TestCase):
    def test_simple_rows(self):
        for row, told in SIMPLE:
            with self.subTest(row=row):
                found = row_of(row)
                self.assertEqual(found, told)
                self.assertIs(type(found), tuple)
                self.assertIs(type(found[1]), list)
                for part in found[1]:
                    self.assertIn(type(part), (int, str, tuple))

    def test_publish(self):
        for entry, row in ROWS:
            word, parts = row_of("publish " + row)
            self.assertEqual((word, len(parts)), ("publish", 1))
            self.assertIsInstance(parts[0], Entry)
            self.assertEqual(fields(parts[0]), fields(entry))

    def test_publish_bare(self):
        self.assertIs(row_of("publish 1 1 genus rosa tied 1 bare")[1][0].described, False)

    def test_each_deed(self):
        for deed in ("keep", "strike", "leave"):
            self.assertEqual(row_of(f"act 1 {deed} 2"), ("act", [1, deed, 2]))

    def test_new_lists(self):
        row_of("out 5")[1].clear()
        self.assertEqual(row_of("out 5"), ("out", [5]))
        row_of("book")[1].append(1)
        self.assertEqual(row_of("book"), ("book", []))


class NoRows(Refusing):
    def test_rows_that_are_none(self):
        for row in bad_rows():
            self.refused_row(row)

    def refused_row(self, row):
        with self.subTest(row=row[:80]):
            with self.assertRaises(NoRow) as caught:
                row_of(row)
            self.assertIs(type(caught.exception), NoRow)

    def test_paths_that_are_none(self):
        for path in bad_paths():
            self.refused_row("lay 5 " + path)

    def test_things_that_are_no_texts(self):
        for thing in no_texts() + [None, ["book"], ("book",), b"book", ("book", [])]:
            self.refused(NoRow, row_of, thing)

    def test_other_words_in_the_place_of_one(self):
        """Rows changed at one sign: each is none, or it is read as what it says."""
        chance = random.Random(21)
        signs = "0123456789abe. \t\n-"
        for round_ in range(4000):
            row = chance.choice([good for good in GOOD if not good.startswith("publish")])
            at = chance.randrange(len(row) + 1)
            row = row[:at] + chance.choice(signs) + row[at + chance.choice((0, 1)):]
            try:
                word, parts = row_of(row)
            except NoRow:
                continue
            said = [".".join(map(str, part)) if type(part) is tuple else str(part) for part in parts]
            self.assertEqual(" ".join([word] + said), row)


if __name__ == "__main__":
    unittest.main()

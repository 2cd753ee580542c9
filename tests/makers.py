"""Entries, books and acts made shortly, and a test case that asks for refusals."""

import unittest

from rightname.acts import Act
from rightname.entries import Entry
from tests.things import no_lists

FIELDS = ("number", "day", "rank", "word", "under", "sheet", "base", "described")


def fields(entry):
    return tuple([getattr(entry, name) for name in FIELDS])


def genus(number, day, word="rosa", sheet=None, described=True):
    return Entry(number, day, "genus", word, None, sheet or number, None, described)


def species(number, day, word, under, sheet=None, described=True):
    return Entry(number, day, "species", word, under, sheet or number, None, described)


def form(number, day, word, under, sheet=None, described=True):
    return Entry(number, day, "form", word, under, sheet or number, None, described)


def moved(number, day, rank, word, under, base, described=True):
    return Entry(number, day, rank, word, under, None, base, described)


def keep(day, number):
    return Act(day, "keep", number)


def strike(day, number):
    return Act(day, "strike", number)


def leave(day, number):
    return Act(day, "leave", number)


def act_fields(act):
    return (act.day, act.deed, act.number)


def bad_books():
    good = genus(1, 1)
    strangers = no_lists() + [[], [good], fields(good), dict(zip(FIELDS, fields(good))), Entry]
    found = [[stranger] for stranger in strangers]
    found += [[good, stranger] for stranger in strangers]
    found += [[stranger, good] for stranger in strangers]
    found += [
        [good, good],
        [good, genus(1, 1)],
        [good, genus(1, 2)],
        [genus(1, 1), genus(2, 2), genus(1, 3)],
        [genus(1, 2), genus(2, 1)],
        [genus(2, 2), genus(1, 1)],
        [genus(1, 1), genus(2, 3), genus(3, 2)],
        [genus(2, 1), genus(1, 1)],
        [genus(1, 1), genus(3, 2), genus(2, 2)],
        [genus(1, 1), genus(2, 1), genus(4, 1), genus(3, 1)],
    ]
    return found


def no_books():
    """Things of any kind that are no book."""
    return no_lists() + [genus(1, 1), (genus(1, 1),)] + bad_books()


class Refusing(unittest.TestCase):
    def refused(self, kind, call, *args, **named):
        with self.subTest(args=[object.__repr__(arg) for arg in args], named=sorted(named)):
            with self.assertRaises(kind) as caught:
                call(*args, **named)
            self.assertIs(type(caught.exception), kind)
            return caught.exception

"""Entries, and books of them."""

from rightname.basics import is_day, is_number, is_rank, is_word
from rightname.errors import NoBook, NoDay, NoEntry, NoNumber, NoRank, NoWord


class Entry:
    def __init__(self, number, day, rank, word, under=None, sheet=None, base=None, described=True):
        refuse_head(number, day, rank, word)
        if not under_fits(rank, under):
            raise NoEntry("a genus is under nothing, every other entry under the number of one")
        if not tie_fits(rank, sheet, base):
            raise NoEntry("an entry has either a sheet or a base, a genus a sheet")
        self.number = number
        self.day = day
        self.rank = rank
        self.word = word
        self.under = under
        self.sheet = sheet
        self.base = base
        self.described = described


def refuse_head(number, day, rank, word):
    if not is_number(number):
        raise NoNumber("a number is a whole number from 1 to 10 ** 9")
    if not is_day(day):
        raise NoDay("a day is a whole number from 1 to 10 ** 6")
    if not is_rank(rank):
        raise NoRank("a rank is genus, species or form")
    if not is_word(word):
        raise NoWord("a word is one to twelve small letters")


def under_fits(rank, under):
    if rank == "genus":
        return under is None
    return is_number(under)


def tie_fits(rank, sheet, base):
    if base is None:
        return is_number(sheet)
    return rank != "genus" and sheet is None and is_number(base)


def ahead(one, other):
    return (one.day, one.number) < (other.day, other.number)


def book_list(entries):
    if not isinstance(entries, list):
        raise NoBook("a book is a list of entries")
    book = list(entries)
    seen = {}
    last = None
    for entry in book:
        if not isinstance(entry, Entry):
            raise NoBook("a book holds entries alone")
        if entry.number in seen:
            raise NoBook("a book has each number once")
        if last is not None and not ahead(last, entry):
            raise NoBook("a book goes by rising days, and by rising numbers within a day")
        seen[entry.number] = True
        last = entry
    return book


def fields_of(entry):
    return (
        entry.number, entry.day, entry.rank, entry.word,
        entry.under, entry.sheet, entry.base, entry.described,
    )


def same_book(one, other):
    first = book_list(one)
    second = book_list(other)
    return [fields_of(entry) for entry in first] == [fields_of(entry) for entry in second]

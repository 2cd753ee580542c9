"""How the entries of a book come out, their full names, their roots and their sheets."""

from rightname.basics import above
from rightname.entries import book_list


# The entries of one book are put in by the book's order. Each hangs on those
# ahead of it alone, so what was told once is never told anew.
class Results:
    def __init__(self):
        self.outs = {}
        self.names = {}
        self.rights = {}
        self.holders = {}

    def put(self, entry):
        name = self.name_of(entry)
        out = self.outcome_of(entry, name)
        self.outs[entry.number] = out
        self.names[entry.number] = name
        if out == "right":
            self.rights[entry.number] = entry
            self.holders[name] = entry
        return out

    def name_of(self, entry):
        if entry.rank == "genus":
            return (entry.word,)
        upper = self.rights.get(entry.under)
        if upper is None or upper.rank != above(entry.rank):
            return None
        return self.names[upper.number] + (entry.word,)

    def outcome_of(self, entry, name):
        if entry.base is None and not entry.described:
            return "undescribed"
        if name is None:
            return "unplaced"
        if entry.base is not None:
            base = self.rights.get(entry.base)
            if base is None or base.rank != entry.rank or base.base is not None:
                return "baseless"
            if base.word != entry.word:
                return "reworded"
        # A full name has as many words as its rank is deep, so alike names are of one rank.
        if name in self.holders:
            return "alike"
        return "right"

    def root_of(self, entry):
        return entry if entry.base is None else self.rights[entry.base]


def results_of(book):
    results = Results()
    for entry in book:
        results.put(entry)
    return results


def outcomes(entries):
    return results_of(book_list(entries)).outs


def full_names(entries):
    return results_of(book_list(entries)).names


def roots(entries):
    results = results_of(book_list(entries))
    found = {}
    for entry in results.rights.values():
        found[entry.number] = results.root_of(entry).number
    return found


def tied(entries):
    results = results_of(book_list(entries))
    found = {}
    for entry in results.rights.values():
        found[entry.number] = results.root_of(entry).sheet
    return found

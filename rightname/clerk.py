"""The clerk, who takes entries, acts and sheets one by one."""

from rightname.acts import DayBooks, can_follow, refuse_day
from rightname.court import Trial, tried
from rightname.entries import Entry, ahead
from rightname.errors import Late, NoAct, NoEntry
from rightname.outcomes import Results
from rightname.sortings import laid, sorting_list, taken


class Clerk:
    def __init__(self):
        self.entries = []
        self.results = Results()
        self.deeds = []
        self.piles = []

    def publish(self, entry):
        if not isinstance(entry, Entry):
            raise NoEntry("an entry alone is published")
        if self.entries and not ahead(self.entries[-1], entry):
            raise Late("an entry stands behind all that are in the book")
        if entry.number in self.results.outs:
            raise Late("an entry of this number is in the book")
        self.entries.append(entry)
        return self.results.put(entry)

    def enter(self, act):
        if not can_follow(self.results, self.deeds, act):
            raise NoAct("this can't be the last act of the book of acts", len(self.deeds))
        self.deeds.append(act)

    def lay(self, sheet, path):
        self.piles = laid(self.piles, sheet, path)

    def take(self, sheet):
        self.piles = taken(self.piles, sheet)

    def verdicts(self, day):
        refuse_day(day)
        return tried(Trial(DayBooks(self.results, self.deeds, day), self.piles))

    def book(self):
        return list(self.entries)

    def acts(self):
        return list(self.deeds)

    def sorting(self):
        return sorting_list(self.piles)

"""Acts, the books of a day, and the order of names."""

from rightname.basics import is_day, is_number, is_rank
from rightname.entries import book_list
from rightname.errors import NoAct, NoDay, NoNumber, NoRank
from rightname.outcomes import results_of

DEEDS = ("keep", "strike", "leave")
STANDING_BY = {"keep": "kept", "strike": "struck", "leave": "plain"}


class Act:
    def __init__(self, day, deed, number):
        refuse_day(day)
        if not is_deed(deed):
            raise NoAct("a deed is keep, strike or leave", 0)
        if not is_number(number):
            raise NoNumber("a number is a whole number from 1 to 10 ** 9")
        self.day = day
        self.deed = deed
        self.number = number


def is_deed(thing):
    # A thing that is no text may not be fit to be compared at all.
    return isinstance(thing, str) and thing in DEEDS


def refuse_day(day):
    if not is_day(day):
        raise NoDay("a day is a whole number from 1 to 10 ** 6")


def can_follow(results, ahead_of_it, thing):
    if not isinstance(thing, Act):
        return False
    if ahead_of_it and thing.day < ahead_of_it[-1].day:
        return False
    entry = results.rights.get(thing.number)
    return entry is not None and entry.base is None and entry.day <= thing.day


def acts_with(results, acts):
    if not isinstance(acts, list):
        raise NoAct("a book of acts is a list of acts", 0)
    found = []
    for place, thing in enumerate(acts):
        if not can_follow(results, found, thing):
            raise NoAct("this is no act that can stand here", place)
        found.append(thing)
    return found


def act_list(entries, acts):
    return acts_with(results_of(book_list(entries)), acts)


# The results and acts may reach beyond the day: what an entry's outcome and full
# name are hangs on nothing later, so the day's own are found among them.
class DayBooks:
    def __init__(self, results, acts, day):
        self.results = results
        self.day = day
        self.standing = standings_of(results, acts, day)
        self.turns = turns_of(self.standing)

    def all_roots(self):
        return [self.results.rights[number] for number in self.standing]

    def is_struck(self, root):
        return self.standing[root.number] == "struck"

    def goes_ahead(self, one, other):
        # Struck roots have no turn: they go ahead of none, and none of them.
        if one.number not in self.turns or other.number not in self.turns:
            return False
        return self.turns[one.number] < self.turns[other.number]

    def holder(self, words):
        entry = self.results.holders.get(words)
        if entry is None or entry.day > self.day:
            return None
        return entry

    def booked(self, words, root):
        entry = self.holder(words + (root.word,))
        if entry is None or self.results.root_of(entry).sheet == root.sheet:
            return None
        return entry


def standings_of(results, acts, day):
    standing = {}
    for entry in results.rights.values():
        if entry.base is None and entry.day <= day:
            standing[entry.number] = "plain"
    for act in acts:
        if act.day <= day:
            standing[act.number] = STANDING_BY[act.deed]
    return standing


def turns_of(standing):
    # Counted over all ranks at once: the order within each rank is the same.
    kept = [number for number in standing if standing[number] == "kept"]
    plain = [number for number in standing if standing[number] == "plain"]
    turns = {}
    for turn, number in enumerate(kept + plain):
        turns[number] = turn
    return turns


def of_day(entries, acts, day):
    book = book_list(entries)
    told = act_list(book, acts)
    refuse_day(day)
    return ([entry for entry in book if entry.day <= day], [act for act in told if act.day <= day])


def day_books(entries, acts, day):
    results = results_of(book_list(entries))
    told = acts_with(results, acts)
    refuse_day(day)
    return DayBooks(results, told, day)


def standings(entries, acts, day):
    return day_books(entries, acts, day).standing


def in_order(entries, acts, day, rank):
    books = day_books(entries, acts, day)
    if not is_rank(rank):
        raise NoRank("a rank is genus, species or form")
    return [number for number in books.turns if books.results.rights[number].rank == rank]

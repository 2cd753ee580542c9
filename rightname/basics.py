"""Days, numbers, words and ranks."""

from rightname.errors import NoRank

RANKS = ("genus", "species", "form")
ABOVE = {"genus": None, "species": "genus", "form": "species"}
BELOW = {"genus": "species", "species": "form", "form": None}
LAST_DAY = 1000000
LAST_NUMBER = 1000000000
MOST_LETTERS = 12


def is_whole(thing):
    # Python counts True and False among the ints; the program does not.
    return isinstance(thing, int) and not isinstance(thing, bool)


def is_day(thing):
    return is_whole(thing) and 1 <= thing <= LAST_DAY


def is_number(thing):
    return is_whole(thing) and 1 <= thing <= LAST_NUMBER


def is_word(thing):
    if not isinstance(thing, str) or not 1 <= len(thing) <= MOST_LETTERS:
        return False
    return all(["a" <= sign <= "z" for sign in thing])


def is_rank(thing):
    # A thing that is no text may not be fit to be compared at all.
    return isinstance(thing, str) and thing in RANKS


def above(rank):
    if not is_rank(rank):
        raise NoRank("a rank is genus, species or form")
    return ABOVE[rank]


def below(rank):
    if not is_rank(rank):
        raise NoRank("a rank is genus, species or form")
    return BELOW[rank]

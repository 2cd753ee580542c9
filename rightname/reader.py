"""Books read from texts."""

from rightname.basics import LAST_DAY, LAST_NUMBER
from rightname.entries import Entry, ahead
from rightname.errors import NoText, RightError


def whole_of(word, most):
    if not isinstance(word, str) or word == "":
        return None
    # Asked before the text is made a number: Python balks at very long ones.
    if len(word) > len(str(most)):
        return None
    if not all(["0" <= sign <= "9" for sign in word]):
        return None
    if word != "0" and word[0] == "0":
        return None
    number = int(word)
    return number if number <= most else None


def day_of(word):
    return whole_of(word, LAST_DAY)


def number_of(word):
    return whole_of(word, LAST_NUMBER)


def read_row(row):
    if not isinstance(row, str):
        return None
    words = row.split(" ")
    bare = words[-1] == "bare"
    if bare:
        words = words[:-1]
    # A genus is under nothing, so its row is two words shorter.
    if len(words) == 6 and words[2] == "genus":
        return entry_of(words[:4], None, words[4:], bare)
    if len(words) == 8 and words[2] != "genus" and words[4] == "under":
        return entry_of(words[:4], number_of(words[5]), words[6:], bare)
    return None


def entry_of(head, under, tie, bare):
    sheet = None
    base = None
    if tie[0] == "tied":
        sheet = number_of(tie[1])
    elif tie[0] == "of" and not bare:
        base = number_of(tie[1])
    # What is no number is None by now, and Entry refuses it as it does a bad rank or word.
    try:
        return Entry(number_of(head[1]), day_of(head[0]), head[2], head[3], under, sheet, base, not bare)
    except RightError:
        return None


def read(text):
    if not isinstance(text, str):
        raise NoText("a book is read from a text", 0)
    if text == "":
        return []
    book = []
    seen = {}
    for place, row in enumerate(text.split("\n")):
        entry = read_row(row)
        if entry is None:
            raise NoText("this row writes no entry", place)
        if entry.number in seen or (book and not ahead(book[-1], entry)):
            raise NoText("this row's entry does not stand behind those ahead of it", place)
        seen[entry.number] = True
        book.append(entry)
    return book

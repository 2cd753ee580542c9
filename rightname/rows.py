"""Rows of text as the desk takes them."""

from rightname.acts import is_deed
from rightname.basics import is_day, is_number
from rightname.errors import NoRow
from rightname.reader import day_of, number_of, read_row
from rightname.sortings import FORM_DEPTH

# What stands behind each word, but for publish, whose entry is many words.
SHAPES = {
    "act": ("day", "deed", "number"),
    "lay": ("number", "path"),
    "take": ("number",),
    "name": ("number", "day"),
    "why": ("number", "day"),
    "book": (),
    "out": ("number",),
}


def row_of(row):
    if not isinstance(row, str):
        raise NoRow("a row is a text")
    words = row.split(" ")
    parts = parts_of(row, words)
    if any([part is None for part in parts]):
        raise NoRow("this is none of the desk's rows")
    return (words[0], parts)


def parts_of(row, words):
    if words[0] == "publish":
        return [read_row(row[len("publish "):])]
    if words[0] not in SHAPES or len(SHAPES[words[0]]) != len(words) - 1:
        return [None]
    return [part_of(kind, word) for kind, word in zip(SHAPES[words[0]], words[1:])]


def part_of(kind, word):
    if kind == "path":
        return path_in(word)
    if kind == "deed":
        return word if is_deed(word) else None
    if kind == "day":
        return day_of(word) if is_day(day_of(word)) else None
    return number_of(word) if is_number(number_of(word)) else None


def path_in(word):
    # A place has the same greatest number as a sheet, but may be 0 too.
    places = [number_of(place) for place in word.split(".")]
    if len(places) > FORM_DEPTH or any([place is None for place in places]):
        return None
    return tuple(places)


def path_text(path):
    return ".".join([str(place) for place in path])

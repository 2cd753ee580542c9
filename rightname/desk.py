"""The desk, which answers rows of text."""

from rightname.acts import Act, standings
from rightname.basics import RANKS
from rightname.clerk import Clerk
from rightname.errors import NoEntry, NoSheet
from rightname.outcomes import outcomes
from rightname.renaming import names_of
from rightname.rows import path_text, row_of
from rightname.sortings import path_of
from rightname.writer import written


class Desk:
    def __init__(self):
        self.clerk = Clerk()

    def say(self, row):
        told = row_of(row)
        word = told[0]
        parts = told[1]
        if word == "publish":
            return self.clerk.publish(parts[0])
        if word == "name":
            return name_answer(self.clerk, parts[0], parts[1])
        if word == "why":
            return why_answer(self.clerk, parts[0], parts[1])
        if word == "book":
            return written(self.clerk.book())
        if word == "out":
            return out_answer(self.clerk, parts[0])
        if word == "act":
            self.clerk.enter(Act(parts[0], parts[1], parts[2]))
        elif word == "lay":
            self.clerk.lay(parts[0], parts[1])
        else:
            self.clerk.take(parts[0])
        return "ok"


def name_answer(clerk, sheet, day):
    names = names_of(clerk.sorting(), clerk.verdicts(day))
    if sheet not in names:
        raise NoSheet("this sheet lies nowhere")
    return "; ".join(["-" if words is None else " ".join(words) for words in names[sheet]])


def out_answer(clerk, number):
    outs = outcomes(clerk.book())
    if number not in outs:
        raise NoEntry("no entry of the book has this number")
    return outs[number]


def why_answer(clerk, number, day):
    if number not in standings(clerk.book(), clerk.acts(), day):
        raise NoEntry("no root of that day's books has this number")
    path = group_path(clerk, number)
    if path is None:
        return "nowhere"
    found = [verdict for verdict in clerk.verdicts(day) if verdict[0] == path]
    return ruling_text(found[0], number)


def group_path(clerk, number):
    found = [entry for entry in clerk.book() if entry.number == number]
    root = found[0]
    path = path_of(clerk.sorting(), root.sheet)
    return None if path is None else path[:RANKS.index(root.rank) + 1]


def ruling_text(verdict, number):
    place = path_text(verdict[0])
    if verdict[1] == "waits":
        return f"{place} waits"
    for paper in verdict[4]:
        if paper[0] == number:
            reason = paper[1]
            other = "-" if paper[2] is None else str(paper[2])
            return f"{place} {reason} {other}"
    return f"right {place}"

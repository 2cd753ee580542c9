"""The names of a sorting's sheets, and what is renamed."""

from rightname.basics import RANKS
from rightname.sortings import FORM_DEPTH, groups


def names_of(sorting, table):
    told = groups(sorting)
    words = {}
    for verdict in table:
        words[verdict[0]] = verdict[2]
    names = {}
    for path, sheets in told:
        if len(path) == FORM_DEPTH:
            for sheet in sheets:
                names[sheet] = (words[path[:1]], words[path[:2]], words[path])
    return names


def renamed(before, behind):
    found = []
    for sheet in sorted(before):
        if sheet in behind:
            for place, rank in enumerate(RANKS):
                if before[sheet][place] != behind[sheet][place]:
                    found.append((sheet, rank, before[sheet][place], behind[sheet][place]))
    return found

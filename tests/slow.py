"""Points 14 to 17 told once more, slowly and by the public functions alone, to try the program by."""

from rightname.acts import in_order, of_day, standings
from rightname.basics import RANKS
from rightname.outcomes import full_names, outcomes, tied
from rightname.sortings import groups


class Books:
    def __init__(self, entries, acts, sorting, day):
        book, deeds = of_day(entries, acts, day)
        outs, self.names, self.sheets = outcomes(book), full_names(book), tied(book)
        self.right = [entry for entry in book if outs[entry.number] == "right"]
        self.standing = standings(entries, acts, day)
        self.order = [number for rank in RANKS for number in in_order(entries, acts, day, rank)]
        self.words = {entry.number: entry.word for entry in book}
        self.ranks = {entry.number: entry.rank for entry in book}
        self.groups = dict(groups(sorting))
        self.paths = [path for path, sheets in groups(sorting)]

    def candidates(self, path):
        rank = RANKS[len(path) - 1]
        return sorted(
            number for number in self.standing
            if self.ranks[number] == rank and self.sheets[number] in self.groups[path])

    def beside(self, path):
        """The other groups in the same group above."""
        return [other for other in self.paths if other != path and other[:-1] == path[:-1] and len(other) == len(path)]

    def by_name(self, words):
        return [entry.number for entry in self.right if self.names[entry.number] == words]

    def booked(self, words, number):
        found = self.by_name(words + (self.words[number],))
        return [other for other in found if self.sheets[other] != self.sheets[number]]

    def ahead(self, one, other):
        return one in self.order and other in self.order and self.order.index(one) < self.order.index(other)

    def head(self, path, words, root):
        """State, words and number of a group with this right root."""
        name = words + (self.words[root],)
        found = self.by_name(name)
        return ("bears", name, found[0]) if found else ("moves", name, root)


def slow_verdicts(entries, acts, sorting, day):
    books = Books(entries, acts, sorting, day)
    rights, names, told = {}, {(): ()}, {}

    def try_together(paths, words):
        papers = {path: {} for path in paths}
        for path in paths:
            for number in books.candidates(path):
                if books.standing[number] == "struck":
                    papers[path][number] = ("struck", None)
        for number in books.order:
            for path in paths:
                if number not in books.candidates(path):
                    continue
                word = books.words[number]
                holders = [rights[other] for other in paths if other in rights and books.words[rights[other]] == word]
                if path in rights:
                    papers[path][number] = ("later", rights[path])
                elif len(path) > 1 and word == words[-1]:
                    papers[path][number] = ("same", None)
                elif len(path) > 1 and books.booked(words, number):
                    papers[path][number] = ("booked", books.booked(words, number)[0])
                elif holders:
                    papers[path][number] = ("taken", holders[0])
                else:
                    rights[path] = number
        for path in paths:
            listed = [(number,) + papers[path][number] for number in sorted(papers[path])]
            head = books.head(path, words, rights[path]) if path in rights else ("new", None, None)
            names[path] = head[1]
            told[path] = (path,) + head + (listed,)

    for path in [()] + books.paths:
        inside = [other for other in books.paths if other[:-1] == path]
        if names.get(path) is None:
            for other in inside:
                told[other] = (other, "waits", None, None, [])
            continue
        own = []
        if len(path) == 2:
            own = [other for other in inside if books.sheets[rights[path]] in books.groups[other]]
            for other in own:
                papers = [
                    (number, "struck", None) if books.standing[number] == "struck" else (number, "own", rights[path])
                    for number in books.candidates(other)
                ]
                told[other] = (other, "own", names[path] + (books.words[rights[path]],), None, papers)
        try_together([other for other in inside if other not in own], names[path])
    return [told[path] for path in books.paths]


def is_whole(thing):
    return isinstance(thing, int) and not isinstance(thing, bool)


def has_kinds(thing, path):
    if not isinstance(thing, tuple) or len(thing) != 5:
        return False
    told, state, words, number, papers = thing
    return (
        isinstance(told, tuple) and all(map(is_whole, told)) and told == path
        and isinstance(state, str) and state in ("bears", "moves", "own", "new", "waits")
        and (words is None or isinstance(words, tuple) and all(isinstance(word, str) for word in words))
        and (number is None or is_whole(number))
        and isinstance(papers, list)
        and all(
            isinstance(paper, tuple) and len(paper) == 3 and is_whole(paper[0]) and isinstance(paper[1], str)
            and (paper[2] is None or is_whole(paper[2])) for paper in papers)
    )


def slow_walked(entries, acts, sorting, day, table):
    books = Books(entries, acts, sorting, day)
    by_table = {
        path: thing for path, thing in zip(books.paths, table) if has_kinds(thing, path)
    }
    rights = {}
    for path in by_table:
        free = set(books.candidates(path)) - {paper[0] for paper in by_table[path][4]}
        if by_table[path][1] in ("bears", "moves") and len(free) == 1:
            rights[path] = free.pop()

    def reason_is_so(path, words, number, reason, other):
        word = books.words[number]
        if reason == "struck":
            return other is None and books.standing[number] == "struck"
        if reason == "later":
            return path in rights and other == rights[path] and books.ahead(other, number)
        if reason == "same":
            return other is None and len(path) > 1 and words[-1] == word
        if reason == "booked":
            return len(path) > 1 and other in books.booked(words, number)
        return any(
            rights.get(beside) == other and books.words[other] == word and books.ahead(other, number)
            for beside in books.beside(path) if beside in rights)

    def first_reasons(path, words, number):
        """All (reason, other) that are so, of the first reason that is."""
        others = [None] + sorted(books.words)
        for reason in ("struck", "later", "same", "booked", "taken"):
            found = [(reason, other) for other in others if reason_is_so(path, words, number, reason, other)]
            if found:
                return found
        return []

    def fails(path):
        if path not in by_table:
            return True
        told, state, words, number, papers = by_table[path]
        above = by_table.get(path[:-1])
        if above is not None and above[1] in ("new", "waits"):
            return (state, words, number, papers) != ("waits", None, None, [])
        over = above[2] if above else ()
        numbers = [paper[0] for paper in papers]
        if len(path) == 3 and books.sheets[rights[path[:-1]]] in books.groups[path]:
            asked = [
                (one, "struck", None) if books.standing[one] == "struck" else (one, "own", rights[path[:-1]])
                for one in books.candidates(path)
            ]
            return (state, words, number, papers) != ("own", over + over[-1:], None, asked)
        losers = [one for one in books.candidates(path) if one != rights.get(path)]
        if numbers != losers:
            return True
        if any((reason, other) not in first_reasons(path, over, one) for one, reason, other in papers):
            return True
        if path not in rights:
            return (state, words, number) != ("new", None, None)
        if first_reasons(path, over, rights[path]):
            return True
        return (state, words, number) != books.head(path, over, rights[path])

    for path in books.paths:
        if fails(path):
            return path
    return () if len(table) > len(books.paths) else None

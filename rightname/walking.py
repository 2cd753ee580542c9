"""The walk of a table: each group's verdict tried by the books and the table itself."""

from rightname.basics import is_whole
from rightname.court import heard

STATES = ("bears", "moves", "own", "new", "waits")


# A table as it is walked: the verdict by it of each group, or None, and the right
# root by it of each group, or None. Verdicts further on in the table count
# too, before they are walked themselves.
class Walk:
    def __init__(self, trial, table):
        self.trial = trial
        self.claims = {}
        self.rights = {}
        for place, path in enumerate(trial.paths):
            claim = table[place] if place < len(table) and is_verdict(table[place], path) else None
            self.claims[path] = claim
            self.rights[path] = right_root(trial.candidates[path], claim)

    # The right roots by the table of the other groups in the same group above.
    def rivals(self, path):
        others = [other for other in self.trial.inside[path[:-1]] if other != path]
        return [self.rights[other] for other in others if self.rights[other] is not None]

    def words_above(self, path):
        return self.claims[path[:-1]][2] if len(path) > 1 else ()


def is_verdict(thing, path):
    if not isinstance(thing, tuple) or len(thing) != 5:
        return False
    if not isinstance(thing[0], tuple) or not all([is_whole(place) for place in thing[0]]) or thing[0] != path:
        return False
    if not isinstance(thing[1], str) or thing[1] not in STATES:
        return False
    if not is_whole_or_none(thing[3]) or not isinstance(thing[4], list):
        return False
    return is_words_or_none(thing[2]) and all([is_paper(paper) for paper in thing[4]])


def is_words_or_none(thing):
    if thing is None:
        return True
    return isinstance(thing, tuple) and all([isinstance(word, str) for word in thing])


def is_whole_or_none(thing):
    return thing is None or is_whole(thing)


def is_paper(thing):
    if not isinstance(thing, tuple) or len(thing) != 3:
        return False
    return is_whole(thing[0]) and isinstance(thing[1], str) and is_whole_or_none(thing[2])


def right_root(candidates, claim):
    if claim is None or claim[1] not in ("bears", "moves"):
        return None
    papers = [paper[0] for paper in claim[4]]
    free = [root for root in candidates if root.number not in papers]
    return free[0] if len(free) == 1 else None


def walked(entries, acts, sorting, day, table):
    trial = heard(entries, acts, sorting, day)
    walk = Walk(trial, table)
    for path in trial.paths:
        if not passes(walk, path):
            return path
    return () if len(table) > len(trial.paths) else None


# The group above has passed by now: where it bears or moves, it has a right root.
def passes(walk, path):
    claim = walk.claims[path]
    if claim is None:
        return False
    if len(path) > 1:
        root_above = walk.rights[path[:-1]]
        if root_above is None:
            return claim == (path, "waits", None, None, [])
        if walk.trial.is_own(path, root_above):
            return passes_own(walk, path, root_above)
    right = walk.rights[path]
    if claim[:4] != head_of(walk, path, right):
        return False
    if right is not None and bars_of(walk, path, right) != []:
        return False
    return passes_papers(walk, path, right)


def passes_own(walk, path, root_above):
    papers = []
    for root in walk.trial.by_number(path):
        if walk.trial.books.is_struck(root):
            papers.append((root.number, "struck", None))
        else:
            papers.append((root.number, "own", root_above.number))
    words = walk.words_above(path) + (root_above.word,)
    return walk.claims[path] == (path, "own", words, None, papers)


def head_of(walk, path, right):
    if right is None:
        return (path, "new", None, None)
    words = walk.words_above(path) + (right.word,)
    entry = walk.trial.books.holder(words)
    if entry is None:
        return (path, "moves", words, right.number)
    return (path, "bears", words, entry.number)


def passes_papers(walk, path, right):
    losers = [root for root in walk.trial.by_number(path) if right is None or root.number != right.number]
    papers = walk.claims[path][4]
    if [paper[0] for paper in papers] != [root.number for root in losers]:
        return False
    return all([paper in bars_of(walk, path, root) for paper, root in zip(papers, losers)])


# The papers by which a candidate may rightly be barred, all of the first reason that
# is so: of taken there may be several, as a table may give one word to many groups.
def bars_of(walk, path, root):
    books = walk.trial.books
    right = walk.rights[path]
    words = walk.words_above(path)
    if books.is_struck(root):
        return [(root.number, "struck", None)]
    if right is not None and books.goes_ahead(right, root):
        return [(root.number, "later", right.number)]
    if words and words[-1] == root.word:
        return [(root.number, "same", None)]
    entry = books.booked(words, root)
    if entry is not None:
        return [(root.number, "booked", entry.number)]
    takers = [rival for rival in walk.rivals(path) if rival.word == root.word and books.goes_ahead(rival, root)]
    return [(root.number, "taken", rival.number) for rival in takers]

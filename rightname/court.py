"""The court: which name each group of a sorting bears, by the books of a day."""

from rightname.acts import DayBooks, acts_with, refuse_day
from rightname.basics import RANKS
from rightname.entries import book_list
from rightname.outcomes import results_of
from rightname.sortings import FORM_DEPTH, groups, sorting_list


# What is to be tried: the books of a day, the groups of a sorting by their paths
# (the genus groups lie in the path without places), and each group's candidates.
class Trial:
    def __init__(self, books, sorting):
        self.books = books
        self.paths = []
        self.inside = {(): []}
        self.where = {}
        self.candidates = {}
        for path, sheets in groups(sorting):
            self.add_group(path, sheets)
        for root in books.all_roots():
            path = self.group_of(root)
            if path is not None:
                self.candidates[path].append(root)

    def add_group(self, path, sheets):
        self.paths.append(path)
        self.inside[path] = []
        self.inside[path[:-1]].append(path)
        self.candidates[path] = []
        if len(path) == FORM_DEPTH:
            for sheet in sheets:
                self.where[sheet] = path

    def group_of(self, root):
        path = self.where.get(root.sheet)
        if path is None:
            return None
        return path[:RANKS.index(root.rank) + 1]

    # The form group that bears its species's word once more, as that root's sheet lies in it.
    def is_own(self, path, root_above):
        return len(path) == FORM_DEPTH and self.where[root_above.sheet] == path

    def by_number(self, path):
        return sorted(self.candidates[path], key=lambda root: root.number)


def heard(entries, acts, sorting, day):
    results = results_of(book_list(entries))
    told = acts_with(results, acts)
    parts = sorting_list(sorting)
    refuse_day(day)
    return Trial(DayBooks(results, told, day), parts)


def verdicts(entries, acts, sorting, day):
    return tried(heard(entries, acts, sorting, day))


# What the court has found of one group so far.
class Ruling:
    def __init__(self):
        self.state = "new"
        self.words = None
        self.number = None
        self.root = None
        self.papers = []


def tried(trial):
    rulings = {}
    for path in trial.paths:
        rulings[path] = Ruling()
    rule_rivals(trial, rulings, (), trial.inside[()])
    # Each group comes ahead of those in it, so its name is found by then.
    for path in trial.paths:
        rule_inside(trial, rulings, path)
    return [verdict_of(path, rulings[path]) for path in trial.paths]


def verdict_of(path, ruling):
    return (path, ruling.state, ruling.words, ruling.number, sorted(ruling.papers, key=lambda paper: paper[0]))


def rule_inside(trial, rulings, path):
    above = rulings[path]
    rivals = []
    for inner in trial.inside[path]:
        if above.root is None:
            rulings[inner].state = "waits"
        elif trial.is_own(inner, above.root):
            rule_own(trial, rulings[inner], inner, above)
        else:
            rivals.append(inner)
    if above.root is not None:
        rule_rivals(trial, rulings, above.words, rivals)


def rule_own(trial, ruling, path, above):
    ruling.state = "own"
    ruling.words = above.words + (above.root.word,)
    for root in trial.candidates[path]:
        if trial.books.is_struck(root):
            ruling.papers.append((root.number, "struck", None))
        else:
            ruling.papers.append((root.number, "own", above.root.number))


# All groups that lie in one group are tried together: a word that one of them has
# is taken for the others.
def rule_rivals(trial, rulings, words, paths):
    claims = []
    for path in paths:
        for root in trial.candidates[path]:
            if trial.books.is_struck(root):
                rulings[path].papers.append((root.number, "struck", None))
            else:
                claims.append((trial.books.turns[root.number], root, rulings[path]))
    bearers = {}
    for turn, root, ruling in sorted(claims, key=lambda claim: claim[0]):
        bar = bar_of(trial.books, words, bearers, ruling, root)
        if bar is None:
            give_name(trial.books, words, ruling, root)
            bearers[root.word] = root.number
        else:
            ruling.papers.append((root.number, bar[0], bar[1]))


def bar_of(books, words, bearers, ruling, root):
    if ruling.root is not None:
        return ("later", ruling.root.number)
    if words and words[-1] == root.word:
        return ("same", None)
    # A genus stands below no words: there the only entry of its full name is itself.
    entry = books.booked(words, root)
    if entry is not None:
        return ("booked", entry.number)
    if root.word in bearers:
        return ("taken", bearers[root.word])
    return None


def give_name(books, words, ruling, root):
    ruling.root = root
    ruling.words = words + (root.word,)
    entry = books.holder(ruling.words)
    if entry is None:
        ruling.state = "moves"
        ruling.number = root.number
    else:
        ruling.state = "bears"
        ruling.number = entry.number

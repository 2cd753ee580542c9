"""Tables with one thing changed."""

from tests.things import Agrees, Balks

ODD = [None, True, 0, -1, 1.0, "", "bears", b"bears", (), [], {}, (0,), [0], object(), Agrees(), Balks()]
STATES = ("bears", "moves", "own", "new", "waits")
REASONS = ("struck", "later", "own", "same", "booked", "taken", "", "right")


def without(xs, at):
    return xs[:at] + xs[at + 1:]


def put(xs, at, thing):
    return xs[:at] + type(xs)([thing]) + xs[at + 1:]


def is_same(one, other):
    """Whether two things are alike in kind and worth, without asking odd things."""
    if isinstance(one, (Agrees, Balks)) or isinstance(other, (Agrees, Balks)):
        return False
    if type(one) is not type(other):
        return False
    if isinstance(one, (tuple, list)):
        return len(one) == len(other) and all(is_same(a, b) for a, b in zip(one, other))
    return one == other


def changed_paths(path):
    yield from (path[:-1], path + (0,), list(path), path[:-1] + (path[-1] + 1,), path[:-1] + (str(path[-1]),))
    yield tuple(float(place) for place in path)
    yield tuple(bool(place) if place < 2 else place for place in path)
    yield from ODD


def changed_words(words):
    yield from (("rosa",), ("rosa", "canina"), ("",), (1,), ("rosa", None), ["rosa"])
    if words is not None:
        yield from (words + ("x",), words[:-1], list(words), words[::-1], " ".join(words), words[:-1] + ("x",))
        yield words[:-1] + (Balks(),)
    yield from ODD


def changed_numbers(number, numbers):
    yield from numbers
    yield from (0, -1, 10 ** 12, None, True, False, "1")
    if number is not None:
        yield from (str(number), float(number), (number,), [number])
    yield from ODD


def changed_paper(paper, numbers):
    for number in changed_numbers(paper[0], numbers):
        yield put(paper, 0, number)
    for reason in REASONS:
        yield put(paper, 1, reason)
    for reason in ODD:
        yield put(paper, 1, reason)
    for other in changed_numbers(paper[2], numbers):
        yield put(paper, 2, other)
    yield from (paper[:2], paper + (None,), list(paper))
    yield from ODD


def changed_papers(papers, numbers):
    for at in range(len(papers)):
        yield without(papers, at)
        yield papers[:at] + [papers[at]] + papers[at:]
        for paper in changed_paper(papers[at], numbers):
            yield put(papers, at, paper)
    for number in numbers:
        for reason in REASONS[:6]:
            yield papers + [(number, reason, None)]
            yield [(number, reason, numbers[0])] + papers
    yield from (papers[::-1], tuple(papers), papers[1:] + papers[:1])
    yield from ODD


def changed_verdicts(verdict, numbers):
    path, state, words, number, papers = verdict
    found = [put(verdict, 0, thing) for thing in changed_paths(path)]
    found += [put(verdict, 1, thing) for thing in STATES + ("", "Bears", "bears ") + tuple(ODD)]
    found += [put(verdict, 2, thing) for thing in changed_words(words)]
    found += [put(verdict, 3, thing) for thing in changed_numbers(number, numbers)]
    found += [put(verdict, 4, thing) for thing in changed_papers(papers, numbers)]
    found += [verdict[:4], verdict + (None,), list(verdict), verdict[::-1], put(verdict, 4, None)]
    found += [(path, "waits", None, None, []), (path, "new", None, None, papers), (path, "new", None, None, [])]
    found += ODD
    return [thing for thing in found if not is_same(thing, verdict)]


def changed_tables(table, numbers):
    """Pairs of the place of the first thing that was changed and the table with that change."""
    for at, verdict in enumerate(table):
        for thing in changed_verdicts(verdict, numbers):
            yield at, table[:at] + [thing] + table[at + 1:]
        yield at, without(table, at)
        if at + 1 < len(table):
            yield at + 1, table[:at] + [verdict] + table[at:]
        for place in range(at + 1, len(table)):
            exchanged = list(table)
            exchanged[at], exchanged[place] = table[place], table[at]
            yield at, exchanged

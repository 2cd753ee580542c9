"""Books, acts, sortings and days, each beside the table that the document asks for."""

from rightname.acts import Act
from rightname.reader import read


def verdict(path, state, words, number, *papers):
    """A verdict told shortly: its path by points, its words by blanks."""
    places = tuple(int(place) for place in path.split("."))
    return (places, state, None if words is None else tuple(words.split(" ")), number, list(papers))


def act(row):
    day, deed, number = row.split(" ")
    return Act(int(day), deed, int(number))


class Case:
    def __init__(self, name, rows, acts, sorting, day, *table):
        self.name = name
        self.entries = read("\n".join(rows))
        self.acts = [act(row) for row in acts]
        self.sorting = sorting
        self.day = day
        self.table = list(table)

    def asked(self):
        return self.entries, self.acts, self.sorting, self.day


ROSA = [
    "1 1 genus rosa tied 1",
    "2 2 species canina under 1 tied 2",
    "3 3 form alba under 2 tied 3",
]
# Two genera, and a species with a form under the first of them.
RUBUS = [
    "1 1 genus rosa tied 1",
    "1 2 genus rubus tied 2",
    "2 3 species canina under 1 tied 3",
    "3 4 form alba under 3 tied 4",
]
# One word under three genera, each tied to a sheet of its own.
ALBA = [
    "1 1 genus rosa tied 1",
    "1 2 genus rubus tied 2",
    "1 3 genus malus tied 3",
    "2 4 species alba under 2 tied 4",
    "3 5 species alba under 3 tied 5",
]
GENERA = ["1 1 genus rosa tied 1", "2 2 genus rubus tied 2", "3 3 genus malus tied 3"]
WAITS = ("waits", None, None)
NEW = ("new", None, None)
OWN = "own"


def sparse_cases():
    return [
        Case("no groups", ROSA, [], [], 9),
        Case(
            "no books", [], [], [[[[1]]], [[[2], [3]], [[4]]]], 1,
            verdict("0", *NEW), verdict("0.0", *WAITS), verdict("0.0.0", *WAITS),
            verdict("1", *NEW), verdict("1.0", *WAITS), verdict("1.0.0", *WAITS), verdict("1.0.1", *WAITS),
            verdict("1.1", *WAITS), verdict("1.1.0", *WAITS)),
        Case(
            "each rank bears", ROSA, [], [[[[1, 2], [3]]]], 3,
            verdict("0", "bears", "rosa", 1), verdict("0.0", "bears", "rosa canina", 2),
            verdict("0.0.0", OWN, "rosa canina canina", None), verdict("0.0.1", "bears", "rosa canina alba", 3)),
        Case(
            "a day ahead of the form", ROSA, [], [[[[1, 2], [3]]]], 2,
            verdict("0", "bears", "rosa", 1), verdict("0.0", "bears", "rosa canina", 2),
            verdict("0.0.0", OWN, "rosa canina canina", None), verdict("0.0.1", *NEW)),
        Case(
            "a day ahead of the species", ROSA, [], [[[[1, 2], [3]]]], 1,
            verdict("0", "bears", "rosa", 1), verdict("0.0", *NEW),
            verdict("0.0.0", *WAITS), verdict("0.0.1", *WAITS)),
        Case(
            "a form in a species that waits has no papers", ROSA, [], [[[[2], [3]]], [[[1]]]], 9,
            verdict("0", *NEW), verdict("0.0", *WAITS), verdict("0.0.0", *WAITS), verdict("0.0.1", *WAITS),
            verdict("1", "bears", "rosa", 1), verdict("1.0", *NEW), verdict("1.0.0", *WAITS)),
        Case(
            "sheets to which nothing is tied", ROSA, [], [[[[1, 2, 50], [3, 60], [70]], [[80]]], [[[90]]]], 9,
            verdict("0", "bears", "rosa", 1), verdict("0.0", "bears", "rosa canina", 2),
            verdict("0.0.0", OWN, "rosa canina canina", None), verdict("0.0.1", "bears", "rosa canina alba", 3),
            verdict("0.0.2", *NEW), verdict("0.1", *NEW), verdict("0.1.0", *WAITS),
            verdict("1", *NEW), verdict("1.0", *WAITS), verdict("1.0.0", *WAITS)),
    ]


def moving_cases():
    sorting = [[[[2]], [[3], [4]]]]
    head = [verdict("0", "bears", "rubus", 2), verdict("0.0", *NEW), verdict("0.0.0", *WAITS)]
    own = verdict("0.1.0", OWN, "rubus canina canina", None)
    based = RUBUS + ["5 5 species canina under 2 of 3", "7 6 form alba under 5 of 4"]
    return [
        Case(
            "species and form move", RUBUS, [], sorting, 9, *head,
            verdict("0.1", "moves", "rubus canina", 3), own, verdict("0.1.1", "moves", "rubus canina alba", 4)),
        Case(
            "a day ahead of the moved entries", based, [], sorting, 4, *head,
            verdict("0.1", "moves", "rubus canina", 3), own, verdict("0.1.1", "moves", "rubus canina alba", 4)),
        Case(
            "bears by an entry with a base, the form moves still", based, [], sorting, 5, *head,
            verdict("0.1", "bears", "rubus canina", 5), own, verdict("0.1.1", "moves", "rubus canina alba", 4)),
        Case(
            "both bear by an entry with a base", based, [], sorting, 7, *head,
            verdict("0.1", "bears", "rubus canina", 5), own, verdict("0.1.1", "bears", "rubus canina alba", 6)),
        Case(
            "bears by another root that is tied to the same sheet",
            ["1 1 genus rosa tied 1", "1 2 genus rubus tied 2", "2 3 species alba under 2 tied 9",
             "3 4 species alba under 1 tied 9"],
            [], [[[[1, 9]]]], 9,
            verdict("0", "bears", "rosa", 1), verdict("0.0", "bears", "rosa alba", 4, (4, "later", 3)),
            verdict("0.0.0", OWN, "rosa alba alba", None)),
    ]


def genus_cases():
    one = [[[[1, 2, 3]]]]
    tail = [verdict("0.0", *NEW), verdict("0.0.0", *WAITS)]
    rosa = verdict("0", "bears", "rosa", 1, (2, "later", 1), (3, "later", 1))
    return [
        Case("the first of three genera", GENERA, [], one, 9, rosa, *tail),
        Case("an act of a later day", GENERA, ["5 strike 1"], one, 4, rosa, *tail),
        Case(
            "the first one struck", GENERA, ["5 strike 1"], one, 5,
            verdict("0", "bears", "rubus", 2, (1, "struck", None), (3, "later", 2)), *tail),
        Case("struck and left", GENERA, ["5 strike 1", "5 leave 1"], one, 5, rosa, *tail),
        Case(
            "all struck", GENERA, ["5 strike 3", "5 strike 1", "5 strike 2"], one, 5,
            verdict("0", *NEW, (1, "struck", None), (2, "struck", None), (3, "struck", None)),
            verdict("0.0", *WAITS), verdict("0.0.0", *WAITS)),
        Case(
            "the last one kept", GENERA, ["5 keep 3"], one, 5,
            verdict("0", "bears", "malus", 3, (1, "later", 3), (2, "later", 3)), *tail),
        Case(
            "two kept, the elder goes ahead", GENERA, ["5 keep 3", "6 keep 2"], one, 6,
            verdict("0", "bears", "rubus", 2, (1, "later", 2), (3, "later", 2)), *tail),
        Case(
            "papers by rising numbers, the order by days",
            ["1 9 genus rosa tied 1", "2 4 genus rubus tied 2", "3 6 genus malus tied 3", "3 7 genus pyrus tied 4"],
            ["5 strike 7"], [[[[1, 2, 3, 4]]]], 9,
            verdict("0", "bears", "rosa", 9, (4, "later", 9), (6, "later", 9), (7, "struck", None)), *tail),
        Case(
            "a genus in each of two groups", GENERA, [], [[[[2]]], [[[1, 3]]]], 9,
            verdict("0", "bears", "rubus", 2), *tail,
            verdict("1", "bears", "rosa", 1, (3, "later", 1)), verdict("1.0", *NEW), verdict("1.0.0", *WAITS)),
    ]


def same_cases():
    return [
        Case(
            "a species of the genus's word, from elsewhere and from there",
            ["1 1 genus rosa tied 1", "1 2 genus rubus tied 2", "2 3 species rosa under 2 tied 3",
             "2 4 species rosa under 1 tied 4", "3 5 species alba under 1 tied 5"],
            [], [[[[1, 3]], [[4]], [[5]]], [[[2]]]], 9,
            verdict("0", "bears", "rosa", 1),
            verdict("0.0", *NEW, (3, "same", None)), verdict("0.0.0", *WAITS),
            verdict("0.1", *NEW, (4, "same", None)), verdict("0.1.0", *WAITS),
            verdict("0.2", "bears", "rosa alba", 5), verdict("0.2.0", OWN, "rosa alba alba", None),
            verdict("1", "bears", "rubus", 2), verdict("1.0", *NEW), verdict("1.0.0", *WAITS)),
        Case(
            "a species of the genus's word is no bar for the next one of its group",
            ["1 1 genus rosa tied 1", "2 2 species rosa under 1 tied 2", "3 3 species alba under 1 tied 3"],
            [], [[[[1, 2, 3]]]], 9,
            verdict("0", "bears", "rosa", 1), verdict("0.0", "bears", "rosa alba", 3, (2, "same", None)),
            verdict("0.0.0", OWN, "rosa alba alba", None)),
        Case(
            "later goes ahead of same",
            ["1 1 genus rosa tied 1", "2 2 species alba under 1 tied 2", "3 3 species rosa under 1 tied 3"],
            [], [[[[1, 2, 3]]]], 9,
            verdict("0", "bears", "rosa", 1), verdict("0.0", "bears", "rosa alba", 2, (3, "later", 2)),
            verdict("0.0.0", OWN, "rosa alba alba", None)),
        Case(
            "same goes ahead of booked",
            ["1 1 genus rosa tied 1", "1 2 genus rubus tied 2", "2 3 species rosa under 1 tied 3",
             "2 4 species rosa under 2 tied 4"],
            [], [[[[1, 4]]]], 9,
            verdict("0", "bears", "rosa", 1), verdict("0.0", *NEW, (4, "same", None)), verdict("0.0.0", *WAITS)),
        Case(
            "a form of the species's word, and one of the genus's",
            ["1 1 genus rosa tied 1", "2 2 species alba under 1 tied 2", "3 3 form alba under 2 tied 3",
             "4 4 form rosa under 2 tied 4"],
            [], [[[[1, 2], [3], [4]]]], 9,
            verdict("0", "bears", "rosa", 1), verdict("0.0", "bears", "rosa alba", 2),
            verdict("0.0.0", OWN, "rosa alba alba", None), verdict("0.0.1", *NEW, (3, "same", None)),
            verdict("0.0.2", "bears", "rosa alba rosa", 4)),
        Case(
            "struck goes ahead of same and later",
            ["1 1 genus rosa tied 1", "2 2 species alba under 1 tied 2", "3 3 species rosa under 1 tied 3"],
            ["4 strike 3"], [[[[1, 2, 3]]]], 9,
            verdict("0", "bears", "rosa", 1), verdict("0.0", "bears", "rosa alba", 2, (3, "struck", None)),
            verdict("0.0.0", OWN, "rosa alba alba", None)),
    ]


def booked_cases():
    rosa = verdict("0", "bears", "rosa", 1)
    return [
        Case(
            "booked by an entry without a base", ALBA + ["4 6 species alba under 1 tied 6"],
            [], [[[[1, 4]]]], 9,
            rosa, verdict("0.0", *NEW, (4, "booked", 6)), verdict("0.0.0", *WAITS)),
        Case(
            "not yet booked on the day ahead", ALBA + ["4 6 species alba under 1 tied 6"],
            [], [[[[1, 4]]]], 3,
            rosa, verdict("0.0", "moves", "rosa alba", 4), verdict("0.0.0", OWN, "rosa alba alba", None)),
        Case(
            "booked by an entry with a base", ALBA + ["4 6 species alba under 1 of 5"],
            [], [[[[1, 4]]]], 9,
            rosa, verdict("0.0", *NEW, (4, "booked", 6)), verdict("0.0.0", *WAITS)),
        Case(
            "an entry with a base that is tied to the same sheet books nothing",
            ALBA + ["4 6 species alba under 1 of 4"], [], [[[[1, 4]]]], 9,
            rosa, verdict("0.0", "bears", "rosa alba", 6), verdict("0.0.0", OWN, "rosa alba alba", None)),
        Case(
            "booked by a struck entry", ALBA + ["4 6 species alba under 1 tied 6"],
            ["5 strike 6"], [[[[1, 4]]]], 9,
            rosa, verdict("0.0", *NEW, (4, "booked", 6)), verdict("0.0.0", *WAITS)),
        Case(
            "an entry that did not come out rightly books nothing",
            ALBA + ["4 6 species alba under 1 tied 6 bare"], [], [[[[1, 4]]]], 9,
            rosa, verdict("0.0", "moves", "rosa alba", 4), verdict("0.0.0", OWN, "rosa alba alba", None)),
        Case(
            "booked goes ahead of taken", ALBA + ["4 6 species alba under 1 of 4"],
            [], [[[[1, 4]], [[5]]]], 9,
            rosa, verdict("0.0", "bears", "rosa alba", 6), verdict("0.0.0", OWN, "rosa alba alba", None),
            verdict("0.1", *NEW, (5, "booked", 6)), verdict("0.1.0", *WAITS)),
        Case(
            "later goes ahead of booked, and of taken",
            sorted_rows(
                ALBA + ["2 7 species bella under 1 tied 7", "2 9 species dulcis under 2 tied 9",
                        "3 10 species dulcis under 3 tied 10", "4 8 species alba under 1 of 4"]),
            [], [[[[1, 5, 7, 10]], [[9]]]], 9,
            rosa, verdict("0.0", "bears", "rosa bella", 7, (5, "later", 7), (10, "later", 7)),
            verdict("0.0.0", OWN, "rosa bella bella", None),
            verdict("0.1", "moves", "rosa dulcis", 9), verdict("0.1.0", OWN, "rosa dulcis dulcis", None)),
        Case(
            "a form booked, and one of another species's",
            ["1 1 genus rosa tied 1", "2 2 species canina under 1 tied 2", "2 3 species bella under 1 tied 3",
             "3 4 form alba under 2 tied 4", "3 5 form alba under 3 tied 5"],
            [], [[[[1, 2], [5]], [[3], [4]]]], 9,
            rosa, verdict("0.0", "bears", "rosa canina", 2), verdict("0.0.0", OWN, "rosa canina canina", None),
            verdict("0.0.1", *NEW, (5, "booked", 4)),
            verdict("0.1", "bears", "rosa bella", 3), verdict("0.1.0", OWN, "rosa bella bella", None),
            verdict("0.1.1", *NEW, (4, "booked", 5))),
    ]


def sorted_rows(rows):
    return sorted(rows, key=lambda row: [int(word) for word in row.split(" ")[:2]])


def taken_cases():
    rosa = verdict("0", "bears", "rosa", 1)
    four = [verdict("0.0", "moves", "rosa alba", 4), verdict("0.0.0", OWN, "rosa alba alba", None)]
    return [
        Case(
            "taken by the group ahead", ALBA, [], [[[[1, 4]], [[5]]]], 9,
            rosa, *four, verdict("0.1", *NEW, (5, "taken", 4)), verdict("0.1.0", *WAITS)),
        Case(
            "taken by the group behind", ALBA, [], [[[[1, 5]], [[4]]]], 9,
            rosa, verdict("0.0", *NEW, (5, "taken", 4)), verdict("0.0.0", *WAITS),
            verdict("0.1", "moves", "rosa alba", 4), verdict("0.1.0", OWN, "rosa alba alba", None)),
        Case(
            "taken by one that is kept", ALBA, ["5 keep 5"], [[[[1, 4]], [[5]]]], 9,
            rosa, verdict("0.0", *NEW, (4, "taken", 5)), verdict("0.0.0", *WAITS),
            verdict("0.1", "moves", "rosa alba", 5), verdict("0.1.0", OWN, "rosa alba alba", None)),
        Case(
            "a struck one takes nothing", ALBA, ["5 strike 4"], [[[[1, 4]], [[5]]]], 9,
            rosa, verdict("0.0", *NEW, (4, "struck", None)), verdict("0.0.0", *WAITS),
            verdict("0.1", "moves", "rosa alba", 5), verdict("0.1.0", OWN, "rosa alba alba", None)),
        Case(
            "one word in groups of unlike groups above", ALBA, [], [[[[1, 4]]], [[[2, 5]]]], 9,
            rosa, *four, verdict("1", "bears", "rubus", 2), verdict("1.0", *NEW, (5, "booked", 4)),
            verdict("1.0.0", *WAITS)),
        Case(
            "one word twice, in two genera", ALBA, [], [[[[1, 4]]], [[[3, 5]]]], 9,
            rosa, *four, verdict("1", "bears", "malus", 3), verdict("1.0", "bears", "malus alba", 5),
            verdict("1.0.0", OWN, "malus alba alba", None)),
        Case(
            "the next candidate of a group whose first word is taken",
            ALBA + ["4 6 species bella under 3 tied 6"], [], [[[[1, 5, 6]], [[4]]]], 9,
            rosa, verdict("0.0", "moves", "rosa bella", 6, (5, "taken", 4)),
            verdict("0.0.0", OWN, "rosa bella bella", None),
            verdict("0.1", "moves", "rosa alba", 4), verdict("0.1.0", OWN, "rosa alba alba", None)),
        Case(
            "a form's word taken, and again in another species",
            ["1 1 genus rosa tied 1", "2 2 species canina under 1 tied 2", "2 3 species bella under 1 tied 3",
             "2 4 species dulcis under 1 tied 4", "3 5 form alba under 4 tied 5", "3 6 form alba under 3 tied 6",
             "4 7 form alba under 2 tied 7 bare", "4 8 species extra under 1 tied 8", "5 9 form alba under 8 tied 9"],
            [], [[[[1, 2], [6], [5]], [[8], [9]], [[3]]]], 9,
            rosa, verdict("0.0", "bears", "rosa canina", 2), verdict("0.0.0", OWN, "rosa canina canina", None),
            verdict("0.0.1", *NEW, (6, "taken", 5)), verdict("0.0.2", "moves", "rosa canina alba", 5),
            verdict("0.1", "bears", "rosa extra", 8), verdict("0.1.0", OWN, "rosa extra extra", None),
            verdict("0.1.1", "bears", "rosa extra alba", 9),
            verdict("0.2", "bears", "rosa bella", 3), verdict("0.2.0", OWN, "rosa bella bella", None)),
    ]


def own_cases():
    forms = ROSA + ["3 4 form bella under 2 tied 4", "3 5 form canina under 2 tied 5", "3 6 form dulcis under 2 tied 2"]
    head = [verdict("0", "bears", "rosa", 1), verdict("0.0", "bears", "rosa canina", 2)]
    return [
        Case(
            "candidates of an own group", forms, [], [[[[1, 2, 3, 5], [4]]]], 9, *head,
            verdict("0.0.0", OWN, "rosa canina canina", None, (3, "own", 2), (5, "own", 2), (6, "own", 2)),
            verdict("0.0.1", "bears", "rosa canina bella", 4)),
        Case(
            "struck ones of an own group", forms, ["4 strike 3", "4 keep 6"], [[[[4], [1, 2, 3]]]], 9, *head,
            verdict("0.0.0", "bears", "rosa canina bella", 4),
            verdict("0.0.1", OWN, "rosa canina canina", None, (3, "struck", None), (6, "own", 2))),
        Case(
            "candidates of an own group take no word",
            ["1 1 genus rosa tied 1", "2 2 species canina under 1 tied 2", "2 3 species bella under 1 tied 3",
             "2 4 species dulcis under 1 tied 4", "3 5 form alba under 3 tied 5", "3 6 form alba under 4 tied 6"],
            [], [[[[1, 2, 5], [6]]]], 9,
            verdict("0", "bears", "rosa", 1),
            verdict("0.0", "bears", "rosa canina", 2),
            verdict("0.0.0", OWN, "rosa canina canina", None, (5, "own", 2)),
            verdict("0.0.1", "moves", "rosa canina alba", 6)),
        Case(
            "the own group of a species that moves",
            RUBUS + ["4 5 species bella under 2 tied 5"], [], [[[[2, 4, 5], [3]]]], 9,
            verdict("0", "bears", "rubus", 2), verdict("0.0", "moves", "rubus canina", 3, (5, "later", 3)),
            verdict("0.0.0", "moves", "rubus canina alba", 4), verdict("0.0.1", OWN, "rubus canina canina", None)),
        Case(
            "own goes by the right root's sheet, not by that of a later one",
            ROSA + ["4 4 species bella under 1 tied 4", "5 5 form nova under 4 tied 5"], [], [[[[3, 4], [1, 5], [2]]]], 9,
            verdict("0", "bears", "rosa", 1), verdict("0.0", "bears", "rosa canina", 2, (4, "later", 2)),
            verdict("0.0.0", "bears", "rosa canina alba", 3), verdict("0.0.1", "moves", "rosa canina nova", 5),
            verdict("0.0.2", OWN, "rosa canina canina", None)),
        Case(
            "later and struck forms",
            ROSA + ["4 4 form bella under 2 tied 4", "4 5 form dulcis under 2 tied 5"], ["6 strike 4"],
            [[[[2], [3, 4, 5]], [[1]]]], 9,
            verdict("0", "bears", "rosa", 1), verdict("0.0", "bears", "rosa canina", 2),
            verdict("0.0.0", OWN, "rosa canina canina", None),
            verdict("0.0.1", "bears", "rosa canina alba", 3, (4, "struck", None), (5, "later", 3)),
            verdict("0.1", *NEW), verdict("0.1.0", *WAITS)),
    ]


def cases():
    return (
        sparse_cases() + moving_cases() + genus_cases() + same_cases() + booked_cases() + taken_cases() + own_cases()
    )

"""Books, acts and sortings drawn by a chance that each test seeds itself."""

from rightname.acts import DEEDS, Act
from rightname.entries import Entry
from rightname.outcomes import outcomes

WORDS = ("alba", "bella", "canina", "dulcis")
MORE_WORDS = WORDS + ("extra", "fulva")


def drawn_tie(chance, rank, book, sheets, odd):
    """A sheet, or a base: mostly an elder entry of the same rank, which keeps its word."""
    elders = [entry for entry in book if entry.rank == rank]
    if rank == "genus" or not elders or chance.random() < 0.65:
        return chance.randint(1, sheets), None, None
    if chance.random() < odd:
        return None, chance.randint(1, len(book) + 2), None
    elder = chance.choice(elders)
    return None, elder.number, elder.word


def drawn_under(chance, rank, book, odd):
    if rank == "genus":
        return None
    upper = {"species": "genus", "form": "species"}[rank]
    uppers = [entry.number for entry in book if entry.rank == upper]
    if not uppers or chance.random() < odd:
        return chance.randint(1, len(book) + 2)
    return chance.choice(uppers)


def drawn_entry(chance, number, day, book, sheets=12, odd=0.15, words=WORDS):
    rank = chance.choice(("genus", "species", "species", "form", "form", "form"))
    under = drawn_under(chance, rank, book, odd)
    sheet, base, word = drawn_tie(chance, rank, book, sheets, odd)
    if word is None or chance.random() < odd:
        word = chance.choice(words)
    return Entry(number, day, rank, word, under, sheet, base, chance.random() >= odd)


def drawn_book(chance, count, sheets=12, odd=0.15, words=WORDS):
    """Entries whose numbers are drawn too, so that they don't rise with the days."""
    numbers = list(range(1, count + 1))
    chance.shuffle(numbers)
    days = sorted(chance.randint(1, 12) for number in numbers)
    places = sorted(zip(days, numbers))
    book = []
    for day, number in places:
        book.append(drawn_entry(chance, number, day, book, sheets, odd, words))
    return book


def drawn_acts(chance, book, count):
    outs = outcomes(book)
    roots = [entry for entry in book if outs[entry.number] == "right" and entry.base is None]
    acts = []
    day = 1
    for place in range(count):
        day = min(day + chance.choice((0, 0, 1, 2)), 15)
        there = [entry.number for entry in roots if entry.day <= day]
        if there:
            acts.append(Act(day, chance.choice(DEEDS), chance.choice(there)))
    return acts


def drawn_groups(chance, sheets, depth):
    """Sheets parted into groups down to the forms, none of them empty."""
    if depth == 3:
        return sorted(sheets)
    count = min(len(sheets), chance.choice((1, 1, 2, 3) if depth < 2 else (1, 2, 3, 4)))
    parts = [[sheet] for sheet in sheets[:count]]
    for sheet in sheets[count:]:
        chance.choice(parts).append(sheet)
    return [drawn_groups(chance, part, depth + 1) for part in parts]


def drawn_sorting(chance, most=14):
    sheets = chance.sample(range(1, most + 1), chance.choice((0, 1, 4, most - 3, most - 2, most - 1, most)))
    return drawn_groups(chance, sheets, 0) if sheets else []


def drawn_trial(chance, count=70, odd=0.05):
    """Entries, acts, a sorting and a day."""
    book = drawn_book(chance, count, 12, odd, MORE_WORDS)
    return book, drawn_acts(chance, book, chance.randint(0, 16)), drawn_sorting(chance), chance.randint(1, 14)

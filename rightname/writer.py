"""Books written as texts."""

from rightname.entries import book_list


def entry_row(entry):
    words = [str(entry.day), str(entry.number), entry.rank, entry.word]
    if entry.under is not None:
        words.extend(["under", str(entry.under)])
    if entry.base is not None:
        words.extend(["of", str(entry.base)])
    else:
        words.extend(["tied", str(entry.sheet)])
        if not entry.described:
            words.append("bare")
    return " ".join(words)


def written(entries):
    return "\n".join([entry_row(entry) for entry in book_list(entries)])

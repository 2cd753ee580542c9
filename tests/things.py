"""Things of many kinds, for asking what the program makes of the wrong ones."""


class Agrees:
    """Says yes to every comparison, so that only its kind gives it away."""

    def __eq__(self, other):
        return True

    def __lt__(self, other):
        return True

    def __gt__(self, other):
        return True

    def __le__(self, other):
        return True

    def __ge__(self, other):
        return True

    def __hash__(self):
        return 1


class Balks:
    """Can't be compared, hashed, measured or walked."""

    def __eq__(self, other):
        raise RuntimeError("compared")

    __lt__ = __gt__ = __le__ = __ge__ = __eq__
    __hash__ = None

    def __len__(self):
        raise RuntimeError("measured")

    def __iter__(self):
        raise RuntimeError("walked")

    def __bool__(self):
        raise RuntimeError("asked for its truth")


def other_kinds():
    """Things that are neither a whole number, nor a text, nor a list, nor None."""
    return [
        True, False, 1.0, 1.5, float("nan"), float("inf"), 1j, b"", b"a", b"genus",
        (), (1,), ("genus",), {}, {1: 1}, {"genus": 1}, set(), {1}, frozenset(), range(3),
        object(), Agrees(), Balks(), int, len, Exception, NotImplemented, Ellipsis,
    ]


def no_numbers():
    """Things that are no whole numbers, but for None."""
    lists = [[], [1], [[1]], ["genus"]]
    texts = ["", "0", "1", "1000000", "a", "genus", "None", "True"]
    return other_kinds() + lists + texts


def no_texts():
    """Things that are no texts, but for None."""
    lists = [[], [1], ["a"], ["genus"], ["g", "e", "n", "u", "s"]]
    numbers = [-1, 0, 1, 2, 10 ** 6, 10 ** 30]
    return other_kinds() + lists + numbers


def no_lists():
    """Things that are no lists, None too."""
    numbers = [-1, 0, 1, 10 ** 30]
    texts = ["", "a", "genus", "\n"]
    return other_kinds() + numbers + texts + [None]

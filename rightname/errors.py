"""The refusals of the program, one class for each."""


class RightError(ValueError):
    pass


class NoText(RightError):
    def __init__(self, words, row=0):
        RightError.__init__(self, words)
        self.row = row


class NoAct(RightError):
    def __init__(self, words, place=0):
        RightError.__init__(self, words)
        self.place = place


class NoDay(RightError):
    pass


class NoNumber(RightError):
    pass


class NoWord(RightError):
    pass


class NoRank(RightError):
    pass


class NoSheet(RightError):
    pass


class NoEntry(RightError):
    pass


class NoBook(RightError):
    pass


class NoSorting(RightError):
    pass


class NoPath(RightError):
    pass


class Late(RightError):
    pass


class NoRow(RightError):
    pass

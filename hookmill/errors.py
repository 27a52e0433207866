"""Every refusal of the program, one class each.

Those that keep something hand it on to their base as it came: so a copy of the error can be made of it anew.
"""


class MillError(ValueError):
    pass


class NoNet(MillError):
    pass


class NoEnd(MillError):
    pass


class NoRule(MillError):
    pass


class TwoRules(MillError):
    pass


class Uneven(MillError):
    pass


class NoPair(MillError):
    pass


class Stuck(MillError):
    pass


class NoTerm(MillError):
    pass


class Spent(MillError):
    pass


class NoValue(MillError):
    pass


class Unfit(MillError):
    pass


class BadRow(MillError):
    def __init__(self, row):
        MillError.__init__(self, row)
        self.row = row


class NoName(MillError):
    def __init__(self, word):
        MillError.__init__(self, word)
        self.word = word


class Twice(MillError):
    def __init__(self, word):
        MillError.__init__(self, word)
        self.word = word


class BadKind(MillError):
    def __init__(self, word):
        MillError.__init__(self, word)
        self.word = word


class Lacking(MillError):
    def __init__(self, taker, maker):
        MillError.__init__(self, taker, maker)
        self.taker = taker
        self.maker = maker

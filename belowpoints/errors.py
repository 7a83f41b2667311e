"""The refusals of the program."""


class BelowError(ValueError):
    pass


class NoPlace(BelowError):
    def __init__(self, text):
        BelowError.__init__(self, text)


class NoAsk(BelowError):
    def __init__(self, text):
        BelowError.__init__(self, text)


class NoPoints(BelowError):
    def __init__(self, row):
        BelowError.__init__(self, f"line {row} is no point, or has a name that is there already")
        self.row = row


class NoCounts(BelowError):
    def __init__(self, row):
        BelowError.__init__(self, f"the count at place {row} is below 0 or above its place")
        self.row = row


class NoName(BelowError):
    def __init__(self, word):
        BelowError.__init__(self, f"the name {word!r} is refused here")
        self.word = word

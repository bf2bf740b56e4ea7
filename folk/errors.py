"""The refusals, one class for each."""


class FolkError(ValueError):
    pass


class NoRow(FolkError):
    def __init__(self, row):
        FolkError.__init__(self, f"row {row} is not as it should be")
        self.row = row


class Odds(FolkError):
    def __init__(self, chain):
        FolkError.__init__(self, f"told to be apart, and the same by the chain {chain!r}")
        # A copy, so that the asker's list and the error's never change each other.
        self.chain = list(chain)


class TooMany(FolkError):
    def __init__(self, count):
        FolkError.__init__(self, f"{count} blocks are too many")
        self.count = count


class NoPair(FolkError):
    pass


class NoText(FolkError):
    pass


class NoName(FolkError):
    def __init__(self, name):
        FolkError.__init__(self, f"no book is called {name!r}")
        self.name = name

"""The refusals of the program, one class for each."""


class RaisedError(ValueError):
    pass


class NoProduct(RaisedError):
    def __init__(self, at):
        RaisedError.__init__(self, f"what stands at {at} is no product of so many letters")
        self.at = at


class NoPart(RaisedError):
    pass


class NoRow(RaisedError):
    def __init__(self, at):
        RaisedError.__init__(self, f"what stands at {at} is no such row of parts")
        self.at = at


class NoExchange(RaisedError):
    pass


class TooMany(RaisedError):
    pass


class Unlike(RaisedError):
    pass


class NoPaper(RaisedError):
    def __init__(self, at):
        RaisedError.__init__(self, f"asking {at} fails of this paper")
        self.at = at


class NoText(RaisedError):
    pass


class NoLetters(RaisedError):
    pass


class NoLine(RaisedError):
    pass


class NoName(RaisedError):
    pass


class Full(RaisedError):
    pass


class NoDeed(RaisedError):
    pass

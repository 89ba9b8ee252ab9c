"""The refusals: one class for each, all of them right under FloorError."""


class FloorError(ValueError):
    pass


class NotEven(FloorError):
    pass


class NoCall(FloorError):
    pass


class NoName(FloorError):
    pass


class NoProgram(FloorError):
    pass


class TooMany(FloorError):
    pass


class NoPairs(FloorError):
    pass


class NoRow(FloorError):
    pass


class Blind(FloorError):
    def __init__(self, who):
        FloorError.__init__(self, f"no rule holds for dancer {who}")
        self.who = who


class Out(FloorError):
    def __init__(self, who):
        FloorError.__init__(self, f"the way of dancer {who} comes to what is no spot")
        self.who = who


class Meet(FloorError):
    def __init__(self, one, other):
        FloorError.__init__(self, f"dancers {one} and {other} would be on one spot")
        self.one = one
        self.other = other


class Broken(FloorError):
    def __init__(self, at, why):
        FloorError.__init__(self, f"refused behind {at} calls: {why}")
        self.at = at
        self.why = why

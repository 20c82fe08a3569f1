"""The refusals: one class for each, all of them straight under SumError."""


class SumError(ValueError):
    pass


class NoOrder(SumError):
    pass


class Ring(SumError):
    def __init__(self, text, ring):
        SumError.__init__(self, text)
        # A copy, so that nothing done to the list that was handed in later changes the error.
        self.ring = list(ring)


class NoThing(SumError):
    pass


class NoTable(SumError):
    pass


class NotUndone(SumError):
    def __init__(self, text, thing):
        SumError.__init__(self, text)
        self.thing = thing


class NoRow(SumError):
    pass


class TooMany(SumError):
    pass


class NoMeet(SumError):
    pass


class NoJoin(SumError):
    pass


class NoLattice(SumError):
    pass


class NoWay(SumError):
    pass


class NoSuch(SumError):
    pass


class NoText(SumError):
    pass


class NoName(SumError):
    pass


class Unlike(SumError):
    pass

"""The refusals, one class for each."""


class PileError(ValueError):
    pass


class NoBox(PileError):
    pass


class NoPile(PileError):
    pass


class NoStairs(PileError):
    pass


class NoWays(PileError):
    pass


class NoRoad(PileError):
    pass


class NoNumber(PileError):
    pass


class NoPlace(PileError):
    pass


class TooMany(PileError):
    pass


class NoText(PileError):
    pass


class NoName(PileError):
    pass


class NoRow(PileError):
    pass

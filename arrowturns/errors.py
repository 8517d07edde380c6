"""The refusals: one class for each, all of them under TurnError."""


class TurnError(ValueError):
    pass


class NoForm(TurnError):
    pass


class NoBox(TurnError):
    pass


class NoNames(TurnError):
    pass


class NoCut(TurnError):
    pass


class TooMany(TurnError):
    pass

"""The refusals of the program, one class for each."""


class SpotError(ValueError):
    pass


class NoNumber(SpotError):
    pass


class NoHalf(SpotError):
    pass


class NoPoints(SpotError):
    pass


class NoDepth(SpotError):
    pass


class NotFour(SpotError):
    pass

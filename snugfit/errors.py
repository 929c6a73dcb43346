"""The refusals."""


class FitError(ValueError):
    pass


class NoNumber(FitError):
    pass


class NoShape(FitError):
    pass


class NoSize(FitError):
    pass

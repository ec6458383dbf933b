"""The refusals: each class stands straight under CutError."""


class CutError(ValueError):
    pass


class NoNumber(CutError):
    pass


class NoTable(CutError):
    pass


class NoPoint(CutError):
    pass


class NoCut(CutError):
    pass


class NoOrder(CutError):
    pass


class TooMany(CutError):
    pass


class NoWeb(CutError):
    pass


class NoText(CutError):
    pass


class NoName(CutError):
    pass


class NoRow(CutError):
    pass

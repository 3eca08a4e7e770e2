"""The refusals of herdline, all of them under HerdError."""


class HerdError(ValueError):
    pass


class BadHerd(HerdError):
    pass


class BadSpot(HerdError):
    pass


class BadWay(HerdError):
    pass


class TooFew(HerdError):
    pass


class BadText(HerdError):
    pass

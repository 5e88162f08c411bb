"""The refusals of Pearlhall."""


class PearlError(ValueError):
    pass


class NoRow(PearlError):
    pass


class NoKeen(PearlError):
    pass


class TooMany(PearlError):
    pass


class NoMix(PearlError):
    pass


class NoBag(PearlError):
    pass

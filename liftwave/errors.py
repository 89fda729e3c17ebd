"""The refusals, one class each, so that whoever is refused can tell them apart."""


class WaveError(ValueError):
    pass


class NoPicture(WaveError):
    pass


class NoLadder(WaveError):
    pass


class NoLevel(WaveError):
    pass


class NoHead(WaveError):
    pass


class NoBits(WaveError):
    pass


class TooMany(WaveError):
    pass


class NoPiece(WaveError):
    pass


class NoText(WaveError):
    pass


class NoRow(WaveError):
    pass

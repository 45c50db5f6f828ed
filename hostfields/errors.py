"""The refusals. All stand straight under HostError, so that taking one never takes another."""


class HostError(ValueError):
    pass


class NoBattle(HostError):
    def __init__(self, field):
        self.field = field


class NoPlan(HostError):
    pass


class NoMix(HostError):
    pass


class NoStream(HostError):
    pass


class NoSide(HostError):
    pass


class NoAlike(HostError):
    pass


class NoNumber(HostError):
    pass


class TooGreat(HostError):
    pass


class NoEven(HostError):
    pass


class NoText(HostError):
    def __init__(self, row):
        self.row = row


class NoRow(HostError):
    pass


class NoName(HostError):
    pass


class NoPlace(HostError):
    pass

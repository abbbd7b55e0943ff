"""The refusals: all stand under WaitError, none under another."""


class WaitError(ValueError):
    pass


class NoNet(WaitError):
    pass


class NoTalk(WaitError):
    pass


class NoRun(WaitError):
    pass


class NoWaits(WaitError):
    pass


class NoNumber(WaitError):
    pass


class Unlike(WaitError):
    pass


class Clash(WaitError):
    pass


class TooBig(WaitError):
    pass


class NoText(WaitError):
    pass

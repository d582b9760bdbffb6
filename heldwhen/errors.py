"""The refusals: each stands under HeldError, and none under another one."""


class HeldError(ValueError):
    pass


class NoWord(HeldError):
    pass


class NoTable(HeldError):
    pass


class NoWidth(HeldError):
    pass


class NoStretch(HeldError):
    pass


class NoColumn(HeldError):
    pass


class NoTurn(HeldError):
    pass


class NoText(HeldError):
    pass

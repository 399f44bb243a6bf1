"""The refusals of the program, one class for each."""


class WalkError(ValueError):
    pass


class NoLink(WalkError):
    pass


class NoKind(WalkError):
    pass


class NoText(WalkError):
    pass


class NoCommand(WalkError):
    pass

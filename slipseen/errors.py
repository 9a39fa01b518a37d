"""The refusals: one class for each, all of them straight under SlipError."""


class SlipError(ValueError):
    pass


class NoScheme(SlipError):
    pass


class OtherBase(SlipError):
    pass


class NoRoom(SlipError):
    pass


class NoKind(SlipError):
    pass


class NoFigure(SlipError):
    pass


class NoNote(SlipError):
    pass

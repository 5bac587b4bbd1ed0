"""The refusals of the package."""


class MirrorError(ValueError):
    """Any refusal."""


class NoBase(MirrorError):
    """What was handed in is no base."""


class NoNumber(MirrorError):
    """What was handed in is no list of figures."""


class NoMirror(MirrorError):
    """What was handed in is no mirrored number."""


class NoPlace(MirrorError):
    """What was handed in is no place of a way."""


class NoWay(MirrorError):
    """What was handed in is no way of the number."""


class NoText(MirrorError):
    """What was handed in is no text of a way."""


class NoCommand(MirrorError):
    """What was handed in is no row of words that the desk knows."""

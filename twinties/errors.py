"""The errors of this package ([5])."""


class TieError(ValueError):
    """What all errors of this package are derived from."""


class InvalidNumber(TieError):
    """A number that is none, or that lies outside of its bounds."""

    def __init__(self, value=None):
        self.value = value


class InvalidCompany(TieError):
    """What should be a company, and is none."""

    def __init__(self, value=None):
        self.value = value


class InvalidPerson(TieError):
    """What should be a person of a company, and is none."""

    def __init__(self, value=None):
        self.value = value


class InvalidCouple(TieError):
    """What should be a couple of a company, and is none."""

    def __init__(self, value=None):
        self.value = value


class InvalidLot(TieError):
    """What should be a lot of a company, and is none."""

    def __init__(self, value=None):
        self.value = value


class InvalidDeed(TieError):
    """What should be a deed, and cannot be done."""

    def __init__(self, value=None):
        self.value = value


class InvalidPrices(TieError):
    """What should be prices or tolls, and is neither."""

    def __init__(self, value=None):
        self.value = value


class InvalidWishes(TieError):
    """What should be wishes, marks or the like, and is none."""

    def __init__(self, value=None):
        self.value = value


class InvalidProgram(TieError):
    """What should be a program, and is none."""

    def __init__(self, value=None):
        self.value = value


class InvalidLeague(TieError):
    """What should be a league, and is none."""

    def __init__(self, value=None):
        self.value = value


class InvalidLine(TieError):
    """What should be a line, and is none."""

    def __init__(self, value=None):
        self.value = value


class Unlike(TieError):
    """One of several that do not go together."""

    def __init__(self, value=None):
        self.value = value


class TooMany(TieError):
    """How many there are, where this is too many to list."""

    def __init__(self, value=None):
        self.value = value


class NothingToUndo(TieError):
    """There is no step that can be taken back."""


class NothingToRedo(TieError):
    """There is no step that was taken back."""

"""The errors that the package raises."""


class RankError(ValueError):
    """What all errors of this package are derived from."""


class InvalidName(RankError):
    """Raised for a value that is no name."""

    def __init__(self, value=None):
        self.value = value


class InvalidNumber(RankError):
    """Raised for a value that is no whole number, or one that does not fit."""

    def __init__(self, value=None):
        self.value = value


class InvalidTree(RankError):
    """Raised for a value that is no tree, or one that does not fit."""

    def __init__(self, value=None):
        self.value = value


class InvalidLot(RankError):
    """Raised for a value that is no lot, or that no lot can be made of."""

    def __init__(self, value=None):
        self.value = value


class InvalidList(RankError):
    """Raised for a value that is no list of what is needed."""

    def __init__(self, value=None):
        self.value = value


class InvalidReport(RankError):
    """Raised for a value that is no report, or that no report can be made of."""

    def __init__(self, value=None):
        self.value = value


class InvalidLevels(RankError):
    """Raised for a value that is no list of levels."""

    def __init__(self, value=None):
        self.value = value


class InvalidText(RankError):
    """Raised for a value that is no text; the spot is where it stops to be one."""

    def __init__(self, spot=None):
        self.spot = spot


class Unknown(RankError):
    """Raised for a name that is not there."""

    def __init__(self, which=None):
        self.which = which


class Lacking(RankError):
    """Raised for the name of a leaf without a worth."""

    def __init__(self, which=None):
        self.which = which

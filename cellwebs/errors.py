"""The errors of the package."""


class CellWebsError(ValueError):
    """The common base of all errors of the package."""


class InvalidWeb(CellWebsError):
    """No web, or not one as it is asked for."""

    def __init__(self, value=None):
        self.value = value


class InvalidKnot(CellWebsError):
    """No knot of the web."""

    def __init__(self, value=None):
        self.value = value


class InvalidTie(CellWebsError):
    """No tie for the places and directions of the web, or not one as it is asked for."""

    def __init__(self, value=None):
        self.value = value


class InvalidNumber(CellWebsError):
    """No whole number within the told bounds."""

    def __init__(self, value=None):
        self.value = value


class InvalidRows(CellWebsError):
    """No rows by which a web can be told anew."""

    def __init__(self, value=None):
        self.value = value

"""The errors of the program."""


class SieveError(ValueError):
    """The base class of all errors of the program."""


class InvalidRow(SieveError):
    """A row has a wrong character; value is its index."""

    def __init__(self, value):
        self.value = value


class InvalidPipeline(SieveError):
    """A pipeline has a wrong character; value is its index."""

    def __init__(self, value):
        self.value = value


class InvalidNumber(SieveError):
    """A number is outside of its limits; value is the number, or None."""

    def __init__(self, value):
        self.value = value


class NothingToUndo(SieveError):
    """There is no sieve that could be taken back; value is 0."""

    def __init__(self, value):
        self.value = value


class Unreadable(SieveError):
    """No pipeline has this text; value is the text."""

    def __init__(self, value):
        self.value = value

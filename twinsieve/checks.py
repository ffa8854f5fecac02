"""The checks of arguments that several files share."""

from twinsieve.errors import InvalidNumber, InvalidPipeline, InvalidRow


def check_row(row):
    """Raise InvalidRow for the first character that is not a lower-case letter."""
    for index, letter in enumerate(row):
        # islower would let letters with accents pass.
        if not "a" <= letter <= "z":
            raise InvalidRow(index)


def check_pipeline(pipeline):
    """Raise InvalidPipeline for the first character that is no sieve."""
    for index, kind in enumerate(pipeline):
        if kind != "T" and kind != "S":
            raise InvalidPipeline(index)


def check_not_negative(number):
    """Raise InvalidNumber for a number below 0."""
    if number < 0:
        raise InvalidNumber(number)


def check_kinds(kinds, row):
    """Raise InvalidNumber for a wrong number of kinds, then InvalidRow for the first letter beyond them.

    The row is valid.
    """
    if kinds < 2 or kinds > 26:
        raise InvalidNumber(kinds)
    for index, letter in enumerate(row):
        if ord(letter) - ord("a") >= kinds:
            raise InvalidRow(index)

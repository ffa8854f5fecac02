"""Pipelines that are read from their texts."""

from twinsieve.errors import Unreadable


def is_written_count(digits):
    """Return whether a text is a number of at least 2, written as it is shown."""
    # isdigit alone would let digits of other alphabets pass.
    return digits.isascii() and digits.isdigit() and digits[0] != "0" and digits != "1"


def count_sieves(part):
    """Return the number of sieves in a part of a text, or 0 if it is not the text of a run of sieves."""
    kind, digits = part[:1], part[1:]
    if kind != "T" and kind != "S":
        return 0
    if digits == "":
        return 1
    if is_written_count(digits):
        return int(digits)
    return 0


def read_pipeline(text):
    """Return the pipeline of a text."""
    if text == "none":
        return ""
    # The sieves are put together last: a text that is wrong further on can have
    # large numbers here.
    runs = []
    before = ""
    for part in text.split(" "):
        count = count_sieves(part)
        if count == 0 or part[0] == before:
            raise Unreadable(text)
        before = part[0]
        runs.append((before, count))
    return "".join([kind * count for kind, count in runs])

"""Rows, their sizes, and the two sieves."""

from twinsieve.checks import check_pipeline, check_row


def runs_of(row):
    """Return the runs of a row as a list of tuples (letter, length)."""
    runs = []
    for letter in row:
        if runs and runs[-1][0] == letter:
            runs[-1] = (letter, runs[-1][1] + 1)
        else:
            runs.append((letter, 1))
    return runs


def sieve_once(row, kind):
    """Return the row after one sieve; row and sieve are valid."""
    if kind == "T":
        kept = [letter for letter, length in runs_of(row) if length > 1]
    else:
        kept = [letter for letter, length in runs_of(row) if length == 1]
    return "".join(kept)


def size(row):
    """Return the tuple (length, number of pairs) of a row."""
    check_row(row)
    # Each run has one pair less than letters.
    return (len(row), len(row) - len(runs_of(row)))


def sieve(row, pipeline):
    """Return the row after the sieves of a pipeline."""
    check_row(row)
    check_pipeline(pipeline)
    for kind in pipeline:
        row = sieve_once(row, kind)
    return row


def stages(row, pipeline):
    """Yield the row, and the row after each sieve of a pipeline."""
    check_row(row)
    check_pipeline(pipeline)
    yield row
    for kind in pipeline:
        row = sieve_once(row, kind)
        yield row

"""What a row can become by pipelines."""

from twinsieve.checks import check_row
from twinsieve.sieves import sieve_once


def sieve_each(level):
    """Return tuples (pipeline, row) after one more sieve; their pipelines are in string order if those before are."""
    return [(pipeline + kind, sieve_once(row, kind)) for pipeline, row in level for kind in "ST"]


def results(row):
    """Yield (pipeline, result) for each row that the row can become, with the first of its shortest pipelines."""
    check_row(row)
    seen = set()
    level = [("", row)]
    while level:
        new = []
        for pipeline, result in level:
            if result not in seen:
                seen.add(result)
                new.append((pipeline, result))
        yield from new
        # A row that was seen before has a pipeline in front of this one, and so has
        # everything that it can become.
        level = sieve_each(new)

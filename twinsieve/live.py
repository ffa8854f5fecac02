"""A row that is sieved step by step."""

from twinsieve.checks import check_pipeline, check_row
from twinsieve.errors import NothingToUndo
from twinsieve.shortest import nth_shortest
from twinsieve.sieves import sieve_once

ALL_KINDS = 26


class SieveRow:
    """A row that is sieved."""

    def __init__(self, row):
        check_row(row)
        # The row at the start and after each sieve: a row that was sieved cannot be
        # worked out from what it has become.
        self._rows = [row]
        self._pipeline = ""

    @classmethod
    def shortest(cls, pipeline, output):
        """Return an object for the first one of the shortest rows that the pipeline leads to the output."""
        return cls(nth_shortest(pipeline, output, ALL_KINDS, 0))

    @property
    def row(self):
        """The present row."""
        return self._rows[-1]

    @property
    def pipeline(self):
        """The sieves so far."""
        return self._pipeline

    @property
    def is_empty(self):
        """True if the present row is empty."""
        return self._rows[-1] == ""

    def __eq__(self, other):
        if not isinstance(other, SieveRow):
            return False
        return self._rows[0] == other._rows[0] and self._pipeline == other._pipeline

    def sieve(self, *pipelines):
        """Apply the pipelines, or none of them if one has a wrong character."""
        added = "".join(pipelines)
        check_pipeline(added)
        for kind in added:
            self._rows.append(sieve_once(self._rows[-1], kind))
        self._pipeline = self._pipeline + added

    def undo(self):
        """Take back the last sieve."""
        if self._pipeline == "":
            raise NothingToUndo(0)
        self._rows.pop()
        self._pipeline = self._pipeline[:-1]

    def history(self):
        """Yield the row at the start and after each sieve so far."""
        yield from self._rows

"""Rows that two pipelines lead to different outputs."""

from twinsieve.checks import check_pipeline
from twinsieve.shortest import nth_shortest
from twinsieve.sizes import least_size


def parting_row(first, second):
    """Return a row that two pipelines lead to different outputs, or None if they are equal."""
    check_pipeline(first)
    check_pipeline(second)
    if first == second:
        return None
    # Their shortest rows for aa have different sizes. Those of the pipeline that needs
    # fewer letters are too short for the other one. If both need as many, the other
    # one leads to aa only rows of this length that have its own number of pairs.
    shorter = first
    if least_size(second, "aa")[0] < least_size(first, "aa")[0]:
        shorter = second
    return nth_shortest(shorter, "aa", 2, 0)

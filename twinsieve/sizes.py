"""The sizes of the shortest rows, and the pipeline that is read back from a size."""

from twinsieve.checks import check_not_negative, check_pipeline
from twinsieve.errors import InvalidNumber
from twinsieve.sieves import size


def grow(pipeline, row_size):
    """Return the size in front of a pipeline for a size behind it."""
    length, pairs = row_size
    for kind in reversed(pipeline):
        if kind == "T":
            length, pairs = 2 * length + pairs, length
        else:
            length = length + 2 * pairs
    return (length, pairs)


def least_size(pipeline, output):
    """Return the size of the shortest rows that a pipeline leads to an output."""
    check_pipeline(pipeline)
    return grow(pipeline, size(output))


def pipeline_of(row_size, output):
    """Return the pipeline whose shortest rows for the output have this size, or None."""
    goal_length, goal_pairs = size(output)
    if goal_pairs == 0:
        raise InvalidNumber(None)
    length, pairs = row_size
    # The numbers of sieves S before, between and behind the sieves T. The string
    # is built last: a size without a pipeline can have very large numbers here.
    counts = []
    while pairs > 0:
        rest = length - goal_length
        if pairs == goal_pairs and rest >= 0 and rest % (2 * pairs) == 0:
            counts.append(rest // (2 * pairs))
            return "T".join(["S" * count for count in counts])
        # A row has more letters than pairs, also behind each sieve. As many sieves
        # S as this allows must come first: T makes a length below 3 * pairs.
        count = max(0, (length - pairs - 1) // (2 * pairs))
        counts.append(count)
        length, pairs = pairs, length - 2 * (count + 1) * pairs
    return None


def combine(letter, pair, row_size, modulus):
    """Return the size that is made of row_size where (1, 0) becomes letter and (0, 1) pair.

    Its numbers are taken modulo the modulus, unless this is None.
    """
    length, pairs = row_size
    new_length = length * letter[0] + pairs * pair[0]
    new_pairs = length * letter[1] + pairs * pair[1]
    if modulus is None:
        return (new_length, new_pairs)
    return (new_length % modulus, new_pairs % modulus)


def grow_repeatedly(pipeline, times, row_size, modulus):
    """Return the size in front of the repeated pipeline; modulus as in combine."""
    letter = grow(pipeline, (1, 0))
    pair = grow(pipeline, (0, 1))
    # letter and pair are squared, because times can have thirty digits.
    while times > 0:
        if times % 2 == 1:
            row_size = combine(letter, pair, row_size, modulus)
        squared_letter = combine(letter, pair, letter, modulus)
        pair = combine(letter, pair, pair, modulus)
        letter = squared_letter
        times = times // 2
    return row_size


def repeated_size(pipeline, times, output):
    """Return the least size for the pipeline that repeats a pipeline."""
    check_pipeline(pipeline)
    check_not_negative(times)
    return grow_repeatedly(pipeline, times, size(output), None)


def repeated_size_mod(pipeline, times, output, modulus):
    """Return the numbers of the least size for a repeated pipeline modulo a modulus."""
    check_pipeline(pipeline)
    check_not_negative(times)
    row_size = size(output)
    if modulus < 1:
        raise InvalidNumber(modulus)
    length, pairs = grow_repeatedly(pipeline, times, row_size, modulus)
    return (length % modulus, pairs % modulus)

"""How many rows of a length a pipeline leads to an output.

The rows are counted by their sizes, from the output forward to the row in front of the first sieve. A sieve keeps
a letter of some runs and drops the other runs. Their letters and their lengths are chosen one after the other.
"""

from math import comb

from twinsieve.checks import check_kinds, check_not_negative, check_pipeline
from twinsieve.sieves import size


def divide_series(series, one, two):
    """Return the series of numbers found[n] = series[n] + one * found[n - 1] + two * found[n - 2]."""
    found = []
    before, last = 0, 0
    for number in series:
        before, last = last, number + one * last + two * before
        found.append(last)
    return found


def ways_to_drop(length, spare, kinds):
    """Return a table: in how many ways letters for so many dropped runs fit in around so many kept letters.

    Its rows are for 0, 1, .. kept letters, no two neighbours of them equal; within a row are the numbers for
    0, 1, .. dropped runs. There are at most length runs in all, and at most spare dropped ones.
    """
    # Without a kept letter, the first letter is free and each other one differs from that before it.
    table = [divide_series(([1, 1] + [0] * spare)[:spare + 1], kinds - 1, 0)]
    # In front of the first kept letter, and behind the last one, each letter must
    # differ from one neighbour that is already there.
    ways = divide_series([1] + [0] * spare, kinds - 1, 0)
    ways = divide_series(ways, kinds - 1, 0)
    while len(table) <= length:
        table.append(ways)
        # Between two different kept letters, a letter that differs from both leaves a
        # shorter gap of this kind. So does one that equals the right letter, if
        # another letter follows it.
        ways = divide_series(ways[:length + 1 - len(table)], kinds - 2, kinds - 1)
    return table


def least_weights(pipeline, length):
    """Return how many letters each letter and each pair needs at the front, for each place in the pipeline."""
    letter, pair = 1, 0
    weights = [(letter, pair)]
    for kind in pipeline:
        if kind == "T":
            letter, pair = 2 * letter + pair, letter
        else:
            pair = 2 * letter + pair
        # Numbers beyond the length all say the same: too many.
        letter, pair = min(letter, length + 1), min(pair, length + 1)
        weights.append((letter, pair))
    return weights


def room_for_pairs(runs, weight, length):
    """Return how many pairs so many runs can have at most, as the rows at the front must not be too long."""
    letter, pair = weight
    # A row of n runs and e pairs has n + e letters.
    return (length - runs * letter) // (letter + pair)


def long_runs(kind, kept, dropped):
    """Return how many of the runs in front of a sieve have two letters or more."""
    if kind == "T":
        return kept
    return dropped


def part_pairs(counts, kinds):
    """Return the counts of rows by size, with a letter chosen for one dropped run within each pair."""
    parted = {}
    for (letters, pairs), count in counts.items():
        for _ in range(pairs):
            count = count * (kinds - 1)
        parted[(letters, pairs)] = count
    return parted


def choose_letters(parted, kind, ways, weight, length):
    """Return the counts by the numbers of kept and of dropped runs, with the letters of all runs chosen."""
    found = {}
    for (kept, pairs), count in parted.items():
        # The run that parts a pair differs from the right letter of it. So no gap
        # that is left for the other runs lies between equal letters.
        for dropped in range(pairs, length + 1 - kept):
            if room_for_pairs(kept + dropped, weight, length) < long_runs(kind, kept, dropped):
                break
            more = count * ways[kept][dropped - pairs]
            found[(kept, dropped)] = found.get((kept, dropped), 0) + more
    return found


def choose_lengths(chosen, kind, weight, length):
    """Return the counts of rows by size, with the lengths of all runs chosen."""
    found = {}
    for (kept, dropped), count in chosen.items():
        runs = kept + dropped
        many = long_runs(kind, kept, dropped)
        if many == 0:
            found[(runs, 0)] = found.get((runs, 0), 0) + count
            continue
        for pairs in range(many, room_for_pairs(runs, weight, length) + 1):
            # Each long run has one pair at least.
            more = count * comb(pairs - 1, many - 1)
            found[(runs + pairs, pairs)] = found.get((runs + pairs, pairs), 0) + more
    return found


def count_rows(length, kinds, pipeline, output):
    """Return how many rows with this length, of the first letters, the pipeline leads to the output."""
    check_not_negative(length)
    check_pipeline(pipeline)
    letters, pairs = size(output)
    check_kinds(kinds, output)
    weights = least_weights(pipeline, length)
    letter, pair = weights[-1]
    # Each dropped run that parts no pair needs one letter at least of those to spare.
    spare = length - letters * letter - pairs * pair
    if spare < 0:
        return 0
    ways = ways_to_drop(length, spare, kinds)
    counts = {(letters, pairs): 1}
    for at in reversed(range(len(pipeline))):
        parted = part_pairs(counts, kinds)
        chosen = choose_letters(parted, pipeline[at], ways, weights[at], length)
        counts = choose_lengths(chosen, pipeline[at], weights[at], length)
    return sum([count for (many, _), count in counts.items() if many == length])

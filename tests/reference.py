"""What the program works out once more, written plainly, for the tests to compare with."""

import re
from itertools import groupby, product


def step(row, kind):
    """The row after one sieve."""
    groups = [(letter, len(list(group))) for letter, group in groupby(row)]
    if kind == "T":
        return "".join(letter for letter, many in groups if many >= 2)
    return "".join(letter for letter, many in groups if many == 1)


def apply(row, pipeline):
    """The row after all sieves of a pipeline."""
    for kind in pipeline:
        row = step(row, kind)
    return row


def widened(row, kind, others="bc"):
    """A shortest row that one sieve leads to this row; the first of two other letters that can do so parts pairs."""
    parts = []
    for at, letter in enumerate(row):
        other = others[0] if letter != others[0] else others[1]
        if at > 0 and row[at - 1] == letter:
            parts.append(other if kind == "T" else other * 2)
        parts.append(letter * 2 if kind == "T" else letter)
    return "".join(parts)


def rows_before(output, longest, sieves):
    """Tuples (pipeline, row): a shortest row of limited length for each pipeline of so many sieves at most."""
    found = [("", output)]
    for pipeline, row in found:
        for kind in "TS":
            wider = widened(row, kind)
            if len(pipeline) < sieves and len(wider) <= longest:
                found.append((kind + pipeline, wider))
    return found


def plain_size(row):
    """The length of a row and its number of equal neighbours."""
    return (len(row), sum(1 for at in range(len(row) - 1) if row[at] == row[at + 1]))


def words(letters, longest):
    """All strings of these letters up to a length, the short ones first."""
    return ["".join(word) for length in range(longest + 1) for word in product(letters, repeat=length)]


def grown(pipeline, size):
    """The size of promise [7], from the last sieve to the first one."""
    n, e = size
    for kind in pipeline[::-1]:
        n, e = (2 * n + e, n) if kind == "T" else (n + 2 * e, e)
    return (n, e)


def search_pipeline(row_size, goal):
    """The pipeline that leads from a size to a goal with a pair, found by trying both sieves."""
    waiting = [(row_size, ())]
    while waiting:
        (n, e), path = waiting.pop()
        if (n, e) == goal:
            return "".join(path)
        if n <= goal[0] or not 0 < e < n:
            continue
        waiting.append(((e, n - 2 * e), path + ("T",)))
        waiting.append(((n - 2 * e, e), path + ("S",)))
    return None


def with_runs(parts):
    """All strings that take one of the strings from each part."""
    return ["".join(choice) for choice in product(*parts)]


def shortest_before(row, kind, letters):
    """All shortest rows of these letters that one sieve leads to this row."""
    parts = []
    for at, letter in enumerate(row):
        if at > 0 and row[at - 1] == letter:
            parts.append([other if kind == "T" else other * 2 for other in letters if other != letter])
        parts.append([letter * 2 if kind == "T" else letter])
    return with_runs(parts)


def all_shortest(pipeline, output, letters):
    """All shortest rows of these letters that a pipeline leads to an output, in string order."""
    rows = [output]
    for kind in pipeline[::-1]:
        rows = [before for row in rows for before in shortest_before(row, kind, letters)]
    return sorted(rows)


def free_letters(pipeline, output):
    """How many pairs the sieves of a pipeline part on the way to a shortest row for the output."""
    sizes = [grown(pipeline[at:], plain_size(output)) for at in range(1, len(pipeline) + 1)]
    return sum(pairs for length, pairs in sizes)


def tried_rows(letters, longest, pipeline):
    """For each output that a row of limited length leads to: the shortest such rows in string order."""
    found = {}
    for row in words(letters, longest):
        rows = found.setdefault(apply(row, pipeline), [])
        if not rows or len(rows[0]) == len(row):
            rows.append(row)
    return found


def costs_up_to(limit):
    """Tuples (cost, pipeline) of all pipelines that cost at most so much, sorted."""
    found = [((2, 1), "")]
    for size, pipeline in found:
        for kind in "TS":
            wider = grown(kind, size)
            if wider[0] <= limit:
                found.append((wider, kind + pipeline))
    return sorted((size[0], pipeline) for size, pipeline in found if size[0] <= limit)


def tried_results(row):
    """Tuples (pipeline, result) of the new rows, found by all pipelines one after the other until a length has none."""
    found = {}
    tried = [("", row)]
    while any(result not in found for pipeline, result in tried):
        for pipeline, result in tried:
            found.setdefault(result, pipeline)
        tried = [(pipeline + kind, step(result, kind)) for pipeline, result in tried for kind in "ST"]
    return [(pipeline, result) for result, pipeline in found.items()]


def best_results(row):
    """The same tuples for rows that pass many sieves, found from the longest row down to the shortest one."""
    best = {row: ""}
    waiting = {row}
    while waiting:
        # A sieve that changes a row makes it shorter, so nothing better is found for the longest one.
        longest = max(waiting, key=len)
        waiting.remove(longest)
        for kind in "ST":
            result = step(longest, kind)
            pipeline = best[longest] + kind
            if result not in best:
                waiting.add(result)
                best[result] = pipeline
            best[result] = min(best[result], pipeline, key=lambda tried: (len(tried), tried))
    return sorted(((best[result], result) for result in best), key=lambda pair: (len(pair[0]), pair[0]))


def plain_text(pipeline):
    """The text of a pipeline."""
    runs = [(kind, len(list(group))) for kind, group in groupby(pipeline)]
    return " ".join(kind + (str(many) if many > 1 else "") for kind, many in runs) or "none"


def plain_reading(text):
    """The pipeline that has this text, or None."""
    part = "[TS](?:[2-9]|[1-9][0-9]+)?"
    if text == "none":
        return ""
    if not re.fullmatch(f"{part}(?: {part})*", text) or re.search("T[0-9]* T|S[0-9]* S", text):
        return None
    return "".join(part[0] * int(part[1:] or "1") for part in text.split(" "))

"""The pipelines in the order of their costs: the lengths of their shortest rows for the output aa."""

from heapq import heappop, heappush

from twinsieve.checks import check_not_negative
from twinsieve.sizes import grow

# The size of the output aa.
START = (2, 1)


def pipelines(limit):
    """Yield all pipelines with a cost of at most the limit, by cost and then in string order."""
    check_not_negative(limit)
    cost, pairs = START
    waiting = [(cost, "", pairs)]
    # Each sieve in front adds to the cost, so none that is still to be found costs
    # less than what is waiting.
    while waiting[0][0] <= limit:
        cost, pipeline, pairs = heappop(waiting)
        yield pipeline
        for kind in "ST":
            new_cost, new_pairs = grow(kind, (cost, pairs))
            heappush(waiting, (new_cost, kind + pipeline, new_pairs))


def count_pipelines(limit):
    """Return how many pipelines have a cost of at most the limit."""
    check_not_negative(limit)
    if limit < START[0]:
        return 0
    count = 0
    # The sizes of pipelines to which any number of sieves S in front is still to be added.
    waiting = [START]
    while waiting:
        cost, pairs = waiting.pop()
        while 2 * cost + pairs <= limit:
            count = count + 1
            waiting.append((2 * cost + pairs, cost))
            cost = cost + 2 * pairs
        # From here on a sieve T in front is too dear, and the rest can be counted at once.
        count = count + 1 + (limit - cost) // (2 * pairs)
    return count


def total_cost(sieves):
    """Return the sum of the costs of all pipelines with this number of sieves."""
    check_not_negative(sieves)
    # The sums over all pipelines grow as a size does, once for each of the two sieves.
    costs, pairs = START
    for _ in range(sieves):
        costs, pairs = 3 * costs + 3 * pairs, costs + pairs
    return costs

"""Promises [2] and [7]: pipelines by their costs, their numbers and the sums of their costs."""

import unittest
from bisect import bisect_right
from itertools import islice

from raising import Raising
from reference import costs_up_to, grown, tried_rows, words

from twinsieve.errors import InvalidNumber
from twinsieve.listing import count_pipelines, pipelines, total_cost
from twinsieve.sizes import least_size

LIMITS = (0, 1, 2, 6, 20, 60, 300)
NEGATIVE = (-1, -2, -300, -10 ** 30)


def listed(limit):
    return list(pipelines(limit))


class Pipelines(unittest.TestCase):
    def test_example(self):
        self.assertEqual(listed(6), ["", "S", "T", "SS"])

    def test_all_up_to_a_limit(self):
        for limit in LIMITS:
            found = listed(limit)
            self.assertEqual(found, [pipeline for cost, pipeline in costs_up_to(limit)])
            self.assertEqual(len(set(found)), len(found))

    def test_every_small_limit(self):
        # Each sieve adds two letters at least, so eleven sieves are too many.
        costs = sorted((grown(pipeline, (2, 1))[0], pipeline) for pipeline in words("TS", 11))
        for limit in range(25):
            self.assertEqual(listed(limit), [pipeline for cost, pipeline in costs if cost <= limit])

    def test_costs_and_their_order(self):
        found = listed(300)
        keys = [(least_size(pipeline, "aa")[0], pipeline) for pipeline in found]
        self.assertEqual(keys, sorted(keys))
        self.assertEqual(keys[-1][0], 300)

    def test_costs_against_tried_rows(self):
        costs = []
        for pipeline in words("TS", 5):
            rows = tried_rows("ab", 11, pipeline).get("aa")
            if rows:
                costs.append((len(rows[0]), pipeline))
        self.assertEqual(listed(11), [pipeline for cost, pipeline in sorted(costs)])

    def test_limits_beside_a_cost(self):
        self.assertEqual(listed(2), [""])
        self.assertEqual(listed(3), [""])
        self.assertEqual(listed(4), ["", "S"])
        self.assertEqual(listed(5), ["", "S", "T"])
        self.assertEqual(listed(9), ["", "S", "T", "SS", "SSS", "ST", "TS"])
        self.assertEqual(listed(8), ["", "S", "T", "SS", "SSS"])

    def test_equal_costs_in_string_order(self):
        by_cost = {}
        for pipeline in listed(60):
            by_cost.setdefault(least_size(pipeline, "aa")[0], []).append(pipeline)
        self.assertGreater(max(len(group) for group in by_cost.values()), 3)
        for group in by_cost.values():
            self.assertEqual(group, sorted(group))

    def test_a_walk_that_stops_early(self):
        for many in (0, 1, 3, 50):
            self.assertEqual(list(islice(iter(pipelines(300)), many)), listed(60)[:many])
        self.assertEqual(next(iter(pipelines(10 ** 20))), "")

    def test_two_walks_at_the_same_time(self):
        first, second = iter(pipelines(20)), iter(pipelines(60))
        together = [(one, other) for one, other in zip(first, second)]
        self.assertEqual([one for one, other in together], listed(20))
        self.assertEqual([other for one, other in together], listed(60)[:len(together)])

    def test_walks_one_within_the_other(self):
        for at, outer in enumerate(pipelines(20)):
            self.assertEqual(listed(9)[-1], "TS")
            self.assertEqual(outer, listed(20)[at])


class CountPipelines(unittest.TestCase):
    def test_example(self):
        self.assertEqual(count_pipelines(6), 4)
        self.assertEqual(count_pipelines(1), 0)

    def test_every_limit_up_to_1000(self):
        costs = [cost for cost, pipeline in costs_up_to(1010)]
        for limit in range(1011):
            self.assertEqual(count_pipelines(limit), bisect_right(costs, limit), limit)

    def test_as_many_as_are_listed(self):
        for limit in LIMITS:
            self.assertEqual(count_pipelines(limit), len(listed(limit)))


class TotalCost(unittest.TestCase):
    def test_example(self):
        self.assertEqual([total_cost(0), total_cost(1), total_cost(2)], [2, 9, 36])

    def test_against_all_pipelines(self):
        costs = {}
        for pipeline in words("TS", 10):
            costs[len(pipeline)] = costs.get(len(pipeline), 0) + grown(pipeline, (2, 1))[0]
        self.assertEqual([total_cost(sieves) for sieves in range(11)], [costs[sieves] for sieves in range(11)])

    def test_many_sieves(self):
        # The costs of both sieves in front of a size add up to 3 * (n + e), the
        # pairs to n + e: so each further sieve multiplies the sum by four.
        for sieves in (1, 2, 11, 100, 999, 1000, 1001):
            self.assertEqual(total_cost(sieves), 9 * 4 ** (sieves - 1))


class Errors(Raising):
    def test_negative_limit(self):
        for limit in NEGATIVE:
            self.assert_value(InvalidNumber, limit, lambda: next(iter(pipelines(limit))))
            self.assert_value(InvalidNumber, limit, listed, limit)
            self.assert_value(InvalidNumber, limit, count_pipelines, limit)

    def test_negative_number_of_sieves(self):
        for sieves in NEGATIVE:
            self.assert_value(InvalidNumber, sieves, total_cost, sieves)

    def test_zero_is_no_error(self):
        self.assertEqual(listed(0), [])
        self.assertEqual(count_pipelines(0), 0)
        self.assertEqual(total_cost(0), 2)


class Calls(unittest.TestCase):
    def test_by_name(self):
        self.assertEqual(list(pipelines(limit=4)), ["", "S"])
        self.assertEqual(count_pipelines(limit=4), 2)
        self.assertEqual(total_cost(sieves=1), 9)

    def test_a_second_call_answers_the_same(self):
        for _ in range(2):
            self.assertEqual(listed(5), ["", "S", "T"])
            self.assertEqual(count_pipelines(1000), 5689)
            self.assertEqual(total_cost(2), 36)

    def test_answers_are_of_their_kinds(self):
        for answer in (count_pipelines(0), count_pipelines(9), total_cost(0), total_cost(9)):
            self.assertIs(type(answer), int)
        self.assertEqual({type(pipeline) for pipeline in pipelines(9)}, {str})


if __name__ == "__main__":
    unittest.main()

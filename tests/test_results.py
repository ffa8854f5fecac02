"""Promises [2], [4] and [5]: what a row can become by pipelines."""

import unittest
from itertools import islice

from raising import Raising
from reference import apply, best_results, rows_before, tried_results, words

from twinsieve.errors import InvalidRow
from twinsieve.results import results
from twinsieve.shortest import nth_shortest
from twinsieve.sieves import sieve, size

# Rows of 60 letters, with few results and with many.
SIXTY = (
    "ab" * 30, "a" * 60, "aab" * 20, "aabbbc" * 10, "abba" * 15, "abccba" * 10, "aabbaabbbaab" * 5,
    "abbabaabbaababbabaababbaabbabaabbaababbaabbabaababbabaabbaab", "z" + "y" * 58 + "z",
    "abcabbacbbccabacbaabbcbacbacaabcbbcacabccbaabacabbcaacbbacbc",
    "abcdefghijklmnopqrstuvwxyzzyxwvutsrqponmlkjihgfedcba" + "ab" * 4,
    "aabaabaabbabbaccaabaabbaabccbaabaabaabcbbcbaabaabbaabaaccaab",
)
# The shortest rows of pipelines, some of which need many sieves until nothing new comes.
PASSING = [row for pipeline, row in rows_before("aa", 60, 12) + rows_before("abba", 60, 6)]


def listed(row):
    return list(results(row))


class AgainstTriedPipelines(unittest.TestCase):
    def test_all_rows_of_two_kinds(self):
        for row in words("ab", 10):
            self.assertEqual(listed(row), tried_results(row))

    def test_all_rows_of_three_kinds(self):
        for row in words("xyz", 10):
            self.assertEqual(listed(row), tried_results(row))

    def test_rows_of_60_letters(self):
        for row in SIXTY:
            self.assertEqual(len(row), 60)
            expected = best_results(row)
            self.assertEqual(listed(row), expected)
            if len(expected[-1][0]) < 10:
                self.assertEqual(listed(row), tried_results(row))

    def test_rows_that_pass_many_sieves(self):
        self.assertGreater(max(len(row) for row in PASSING), 55)
        for row in PASSING:
            self.assertEqual(listed(row), best_results(row))
            self.assertEqual(listed(row + "c" + row)[:60], best_results(row + "c" + row)[:60])

    def test_a_row_of_60_letters_that_passes_all_sieves_s(self):
        row = "ab" * 15 + "ba" * 15
        found = listed(row)
        self.assertIn(("S" * 28, "abba"), found)
        self.assertIn(("S" * 29, "aa"), found)
        self.assertEqual(found, best_results(row))


class Answers(unittest.TestCase):
    def test_example(self):
        self.assertEqual(listed("aabaa"), [("", "aabaa"), ("S", "b"), ("T", "aa"), ("ST", ""), ("TT", "a")])
        self.assertEqual(listed("ab"), [("", "ab"), ("T", "")])

    def test_the_empty_row_and_the_shortest_ones(self):
        self.assertEqual(listed(""), [("", "")])
        self.assertEqual(listed("q"), [("", "q"), ("T", "")])
        self.assertEqual(listed("zz"), [("", "zz"), ("S", ""), ("T", "z")])

    def test_a_later_pipeline_of_equal_length_does_not_count(self):
        # Both ST and TS make the row empty.
        self.assertEqual(dict((result, pipeline) for pipeline, result in listed("aab"))[""], "ST")
        self.assertEqual(listed("aab"), [("", "aab"), ("S", "b"), ("T", "a"), ("ST", "")])

    def test_no_result_twice_and_their_order(self):
        for row in SIXTY + tuple(words("abc", 6)):
            found = listed(row)
            self.assertEqual(len({result for pipeline, result in found}), len(found))
            keys = [(len(pipeline), pipeline) for pipeline, result in found]
            self.assertEqual(keys, sorted(set(keys)))

    def test_each_pipeline_leads_to_its_result(self):
        for row in SIXTY + tuple(words("abc", 6)):
            for pipeline, result in results(row):
                self.assertEqual(sieve(row, pipeline), result)

    def test_are_tuples_of_two_strings(self):
        for row in ("", "a", "aabaa"):
            for answer in results(row):
                self.assertIs(type(answer), tuple)
                self.assertEqual([type(part) for part in answer], [str, str])

    def test_every_pipeline_leads_to_a_result(self):
        pipelines = words("ST", 6)
        for row in SIXTY + tuple(words("ab", 8) + words("abc", 5)):
            found = {result: (len(pipeline), pipeline) for pipeline, result in results(row)}
            for pipeline in pipelines:
                self.assertLessEqual(found[apply(row, pipeline)], (len(pipeline), pipeline), row)


class Walks(unittest.TestCase):
    def test_a_walk_that_stops_early(self):
        for row in ("", "aabaa") + SIXTY:
            for many in (0, 1, 2, 4):
                self.assertEqual(list(islice(iter(results(row)), many)), best_results(row)[:many])
            self.assertEqual(listed(row), best_results(row))

    def test_one_walk_inside_of_another_one(self):
        row = SIXTY[-1]
        expected = best_results(row)
        for at, (pipeline, result) in enumerate(results(row)):
            self.assertEqual((pipeline, result), expected[at])
            self.assertEqual(listed(row), expected)
            self.assertEqual(listed(result), best_results(result))

    def test_two_walks_at_the_same_time(self):
        first, second = iter(results("aabaa")), iter(results("aabaabb"))
        together = list(zip(first, second))
        self.assertEqual([one for one, other in together], listed("aabaa"))
        self.assertEqual([other for one, other in together], listed("aabaabb")[:len(together)])


class Errors(Raising):
    def test_first_wrong_character(self):
        for wrong in "A0 {`\n_\u00e9":
            for at in (0, 1, 5, 9):
                self.assert_value(InvalidRow, at, listed, "aabbccddee"[:at] + wrong + "X" * (9 - at))
        self.assert_value(InvalidRow, 59, listed, "ab" * 29 + "aB")

    def test_before_anything_is_yielded(self):
        for row in ("A", "aabaA", "ab" * 29 + "a\n"):
            self.assert_value(InvalidRow, len(row) - 1, lambda: next(iter(results(row))))


class Calls(unittest.TestCase):
    def test_by_name(self):
        self.assertEqual(list(results(row="ab")), [("", "ab"), ("T", "")])

    def test_a_second_call_answers_the_same(self):
        for _ in range(2):
            self.assertEqual(listed("ab"), [("", "ab"), ("T", "")])
            self.assertEqual(listed("aa"), [("", "aa"), ("S", ""), ("T", "a")])


class PassedOn(unittest.TestCase):
    """[2]: a returned value may be passed on whatever its size."""

    def test_long_rows(self):
        for pipeline, output in (("S" * 149, "aa"), ("TSTSTS", "aa"), ("T" * 6, "aab"), ("SSSSTSSSSTSS", "abba")):
            row = nth_shortest(pipeline, output, 26, 0)
            self.assertGreater(len(row), 150)
            self.assertEqual(listed(row), best_results(row))
            self.assertIn(output, [result for pipeline, result in results(row)])

    def test_results_and_their_pipelines(self):
        row = nth_shortest("S" * 149, "aa", 2, 0)
        for pipeline, result in results(row):
            self.assertEqual(sieve(row, pipeline), result)
            self.assertEqual(size(result)[0], len(result))


if __name__ == "__main__":
    unittest.main()

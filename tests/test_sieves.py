"""Promises [2], [4] and [5]: rows, sizes, sieves, stages and their checks."""

import unittest

from raising import Raising
from reference import apply, plain_size, rows_before, words

from twinsieve.errors import InvalidPipeline, InvalidRow
from twinsieve.sieves import sieve, size, stages

LONGEST_PIPELINES = ("T" * 12, "S" * 12, "TS" * 6, "ST" * 6, "TTSSTTSSTTSS", "SSSTTTSSSTTT")
# Capital letters, digits, blanks, signs beside the letters, letters with accents
# and letters of another alphabet.
WRONG_LETTERS = "AZQ059 \n_-`{@[\u00e9\u00fc\u00df\u00e0\u0301\u0430\u03b1\u00aa"
WRONG_SIEVES = "ts 01UQR\n\u0422\u00e9a"


def listed(row, pipeline):
    return list(stages(row, pipeline))


class Sizes(unittest.TestCase):
    def test_example(self):
        self.assertEqual(size("aabaa"), (5, 2))

    def test_empty_row_and_single_letters(self):
        self.assertEqual(size(""), (0, 0))
        for letter in "abcdefghijklmnopqrstuvwxyz":
            self.assertEqual(size(letter), (1, 0))

    def test_runs_of_every_length(self):
        for many in range(1, 201):
            self.assertEqual(size("q" * many), (many, many - 1))

    def test_rows_of_200_letters(self):
        self.assertEqual(size("ab" * 100), (200, 0))
        self.assertEqual(size("aabb" * 50), (200, 100))
        self.assertEqual(size("z" + "a" * 198 + "z"), (200, 197))
        self.assertEqual(size("abc" * 60 + "d" * 20), (200, 19))

    def test_against_counted_neighbours(self):
        for row in words("abz", 7):
            self.assertEqual(size(row), plain_size(row))

    def test_is_a_tuple_of_integers(self):
        for row in ("", "a", "aab"):
            answer = size(row)
            self.assertIs(type(answer), tuple)
            self.assertEqual([type(number) for number in answer], [int, int])


class RowCheck(Raising):
    def calls(self):
        return ((size, ()), (sieve, ("TS",)), (sieve, ("",)), (listed, ("TS",)), (listed, ("",)))

    def test_every_place(self):
        for call, more in self.calls():
            for wrong in WRONG_LETTERS:
                for at in (0, 1, 4, 8, 9):
                    row = "aabbccddee"[:at] + wrong + "aabbccddee"[at + 1:]
                    self.assert_value(InvalidRow, at, call, row, *more)

    def test_last_of_200_letters(self):
        for call, more in self.calls():
            self.assert_value(InvalidRow, 199, call, "a" * 199 + "A", *more)

    def test_first_of_several(self):
        for call, more in self.calls():
            self.assert_value(InvalidRow, 2, call, "abX1 c\u00e9", *more)
            self.assert_value(InvalidRow, 0, call, "ABC", *more)
            self.assert_value(InvalidRow, 1, call, "e\u0301\u0301", *more)

    def test_first_and_last_letter_of_the_alphabet_are_valid(self):
        self.assertEqual(size("aazz"), (4, 2))
        self.assertEqual(sieve("aazz", "T"), "az")

    def test_comes_before_the_pipeline_check(self):
        for call in (sieve, listed):
            self.assert_value(InvalidRow, 3, call, "abcD", "x")
            self.assert_value(InvalidRow, 0, call, "1", "TSx")


class PipelineCheck(Raising):
    def test_every_place(self):
        for call in (sieve, listed):
            for wrong in WRONG_SIEVES:
                for at in (0, 1, 3, 5):
                    pipeline = "TSTSTS"[:at] + wrong + "TSTSTS"[at + 1:]
                    self.assert_value(InvalidPipeline, at, call, "aabb", pipeline)

    def test_first_of_several(self):
        for call in (sieve, listed):
            self.assert_value(InvalidPipeline, 1, call, "aabb", "Tt sS")
            self.assert_value(InvalidPipeline, 11, call, "aabb", "T" * 11 + "x")

    def test_an_empty_row_does_not_hide_it(self):
        for call in (sieve, listed):
            self.assert_value(InvalidPipeline, 0, call, "", "x")
            self.assert_value(InvalidPipeline, 4, call, "ab", "TTTTx")


class Sieve(unittest.TestCase):
    def test_example(self):
        rows = [sieve("aabaa", "T"), sieve("abba", "S"), sieve("aabaa", "TT"), sieve("aabaa", "ST")]
        self.assertEqual(rows, ["aa", "aa", "a", ""])

    def test_runs_of_one_two_and_more(self):
        self.assertEqual(sieve("abbcccdddd", "T"), "bcd")
        self.assertEqual(sieve("abbcccdddd", "S"), "a")
        self.assertEqual(sieve("a" * 200, "T"), "a")
        self.assertEqual(sieve("a" * 200, "S"), "")

    def test_empty_pipeline(self):
        for row in ("", "a", "aab", "z" * 200):
            self.assertEqual(sieve(row, ""), row)

    def test_empty_row(self):
        for pipeline in words("TS", 4) + list(LONGEST_PIPELINES):
            self.assertEqual(sieve("", pipeline), "")

    def test_from_left_to_right(self):
        self.assertEqual(sieve("aabaab", "TS"), "")
        self.assertEqual(sieve("aabaab", "ST"), "b")

    def test_all_short_rows(self):
        for row in words("abc", 6):
            for pipeline in words("TS", 4):
                self.assertEqual(sieve(row, pipeline), apply(row, pipeline), (row, pipeline))

    def test_pipelines_of_twelve_sieves(self):
        for row in ("abba" * 50, "aabbbc" * 33 + "dd", "ab" * 100, "abccbaabccbaddeedd" * 11):
            for pipeline in LONGEST_PIPELINES:
                for many in range(13):
                    self.assertEqual(sieve(row, pipeline[:many]), apply(row, pipeline[:many]))

    def test_rows_that_pass_up_to_twelve_sieves(self):
        self.assertEqual(sieve("abcdefghijklmmlkjihgfedcba", "S" * 12), "aa")
        self.assertEqual(sieve("abc", "S" * 12), "abc")
        for output in ("aa", "abba", "aaa"):
            found = rows_before(output, 200, 12)
            self.assertIn(12, [len(pipeline) for pipeline, row in found])
            for pipeline, row in found:
                self.assertEqual(sieve(row, pipeline), output, (row, pipeline))


class Stages(unittest.TestCase):
    def test_the_row_and_the_row_after_each_sieve(self):
        self.assertEqual(listed("aabaabb", "TTS"), ["aabaabb", "aab", "a", "a"])
        self.assertEqual(listed("abba", "ST"), ["abba", "aa", "a"])

    def test_empty_row_and_empty_pipeline(self):
        self.assertEqual(listed("", ""), [""])
        self.assertEqual(listed("aab", ""), ["aab"])
        self.assertEqual(listed("", "TST"), ["", "", "", ""])

    def test_all_short_rows(self):
        for row in words("ab", 6):
            for pipeline in words("TS", 4):
                rows = [apply(row, pipeline[:many]) for many in range(len(pipeline) + 1)]
                self.assertEqual(listed(row, pipeline), rows)

    def test_twelve_sieves(self):
        for pipeline in LONGEST_PIPELINES:
            rows = [apply("aabbbc" * 33, pipeline[:many]) for many in range(13)]
            self.assertEqual(listed("aabbbc" * 33, pipeline), rows)

    def test_errors_at_the_latest_with_the_first_row(self):
        for row, pipeline, error in (("aA", "T", InvalidRow), ("aa", "Tx", InvalidPipeline)):
            with self.assertRaises(error):
                next(iter(stages(row, pipeline)))

    def test_yields_one_row_at_a_time(self):
        rows = iter(stages("aabaabb", "TT"))
        self.assertEqual([next(rows), next(rows), next(rows)], ["aabaabb", "aab", "a"])
        self.assertIs(next(rows, None), None)

    def test_two_runs_do_not_disturb_each_other(self):
        first, second = iter(stages("aab", "TS")), iter(stages("bba", "ST"))
        together = [(one, two) for one, two in zip(first, second)]
        self.assertEqual(together, [("aab", "bba"), ("a", "a"), ("a", "")])


class Calls(unittest.TestCase):
    def test_by_name(self):
        self.assertEqual(size(row="aab"), (3, 1))
        self.assertEqual(sieve(row="aab", pipeline="T"), "a")
        self.assertEqual(sieve(pipeline="S", row="aab"), "b")
        self.assertEqual(list(stages(row="aab", pipeline="T")), ["aab", "a"])
        self.assertEqual(list(stages(pipeline="S", row="aab")), ["aab", "b"])

    def test_a_second_call_answers_the_same(self):
        for _ in range(2):
            self.assertEqual(size("aabaa"), (5, 2))
            self.assertEqual(sieve("aabaa", "T"), "aa")
            self.assertEqual(listed("aabaa", "T"), ["aabaa", "aa"])


if __name__ == "__main__":
    unittest.main()

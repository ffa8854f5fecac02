"""Promises [2], [6] and [9]: how many rows of a length lead to an output."""

import unittest
from collections import Counter
from itertools import product
from math import comb
from time import perf_counter

from raising import Raising
from reference import apply, free_letters, grown, plain_size, words

from twinsieve.counting import count_rows
from twinsieve.errors import InvalidNumber, InvalidPipeline, InvalidRow
from twinsieve.sizes import least_size, pipeline_of

PIPELINES = words("TS", 6)
SIX = [pipeline for pipeline in PIPELINES if len(pipeline) == 6]
ALPHABET = "abcdefghijklmnopqrstuvwxyz"


def with_size(length, pairs):
    """A row of the letters a and b with this size."""
    runs = length - pairs
    return ("ab" * runs)[:runs - 1] + "ab"[(runs - 1) % 2] * (pairs + 1) if length else ""


def outputs_of_size(length, pairs, kinds):
    """How many rows of so many kinds have this size."""
    if length == 0:
        return 1
    return kinds * comb(length - 1, pairs) * (kinds - 1) ** (length - 1 - pairs)


def possible_sizes(length, pipeline):
    """The sizes of all outputs to which the pipeline leads rows of this length at most."""
    sizes = [(0, 0)] + [(many, pairs) for many in range(1, length + 1) for pairs in range(many)]
    return [size for size in sizes if grown(pipeline, size)[0] <= length]


class AgainstAllRows(unittest.TestCase):
    def check(self, letters, longest):
        kinds = len(letters)
        for length in range(longest + 1):
            rows = ["".join(row) for row in product(letters, repeat=length)]
            for pipeline in PIPELINES:
                found = Counter(apply(row, pipeline) for row in rows)
                by_size = {}
                for output, count in found.items():
                    self.assertEqual(count_rows(length, kinds, pipeline, output), count, (length, pipeline, output))
                    by_size.setdefault(plain_size(output), set()).add(count)
                self.assertEqual({len(counts) for counts in by_size.values()}, {1})
                self.check_others(length, kinds, pipeline, found, letters)

    def check_others(self, length, kinds, pipeline, found, letters):
        """Outputs that no row leads to."""
        for output in words(letters, 4) + [letters[0] * (length + 1), letters[1] * 12]:
            if output not in found:
                self.assertEqual(count_rows(length, kinds, pipeline, output), 0)

    def test_two_kinds(self):
        self.check("ab", 9)

    def test_three_kinds(self):
        self.check("abc", 6)

    def test_four_kinds(self):
        self.check("abcd", 6)


class Examples(unittest.TestCase):
    def test_of_the_document(self):
        self.assertEqual(count_rows(5, 2, "T", "aa"), 1)
        self.assertEqual(count_rows(3, 2, "T", ""), 2)
        self.assertEqual(count_rows(4, 3, "S", "aa"), 2)
        self.assertEqual(count_rows(2, 2, "", "ab"), 1)

    def test_length_0(self):
        for pipeline in PIPELINES:
            for kinds in (2, 3, 26):
                self.assertEqual(count_rows(0, kinds, pipeline, ""), 1)
                for output in ("a", "aa", "ab", "b" * 12):
                    self.assertEqual(count_rows(0, kinds, pipeline, output), 0)

    def test_length_1(self):
        for kinds in (2, 3, 26):
            self.assertEqual(count_rows(1, kinds, "", "a"), 1)
            self.assertEqual(count_rows(1, kinds, "S", "b"), 1)
            self.assertEqual(count_rows(1, kinds, "S", ""), 0)
            self.assertEqual(count_rows(1, kinds, "T", "b"), 0)
            self.assertEqual(count_rows(1, kinds, "T", ""), kinds)

    def test_empty_pipeline(self):
        for output in ("", "a", "aab", "abababababab"):
            for length in range(15):
                self.assertEqual(count_rows(length, 2, "", output), 1 if length == len(output) else 0)

    def test_no_row_leads_there(self):
        self.assertEqual(count_rows(4, 2, "T", "aa"), 0)
        self.assertEqual(count_rows(3, 26, "S", "aa"), 0)
        self.assertEqual(count_rows(40, 26, "TTTTTT", "aa"), 0)
        self.assertEqual(count_rows(40, 26, "SSSSSS", "a" * 12), 0)
        self.assertEqual(count_rows(11, 26, "", "a" * 12), 0)

    def test_is_an_integer(self):
        for length, output in ((2, "aa"), (2, "a"), (1, "aaaa")):
            self.assertIs(type(count_rows(length, 2, "", output)), int)


class Size(unittest.TestCase):
    """[9]: only the size of the output counts."""

    def test_outputs_of_equal_size(self):
        for pipeline in ("", "T", "S", "TS", "ST", "SSTS", "TSSSSS", "STSSST", "SSSSSS"):
            for group in (("aab", "abb", "caa", "zyy"), ("abab", "abcd", "zxzx"), ("aabb", "abbb", "baaa", "aaba")):
                for length in (0, 4, 7, 17, 31, 40):
                    counts = [count_rows(length, 26, pipeline, output) for output in group[:3]]
                    self.assertEqual(len(set(counts)), 1)
        self.assertNotEqual(count_rows(20, 3, "S", "aab"), count_rows(20, 3, "S", "aba"))

    def test_all_outputs_with_the_same_size(self):
        for output in words("abc", 6):
            same = with_size(*plain_size(output))
            self.assertEqual(plain_size(same), plain_size(output))
            for pipeline in ("T", "ST", "SSS"):
                self.assertEqual(count_rows(19, 3, pipeline, output), count_rows(19, 3, pipeline, same))


class Sums(unittest.TestCase):
    """The counts of all outputs of a length add up to the number of rows."""

    def check(self, length, kinds, pipeline):
        total = 0
        for size in possible_sizes(length, pipeline):
            total += outputs_of_size(*size, kinds) * count_rows(length, kinds, pipeline, with_size(*size))
        self.assertEqual(total, kinds ** length, (length, kinds, pipeline))

    def test_output_by_output(self):
        for length in range(8):
            for pipeline in PIPELINES:
                outputs = words("ab", length)
                total = sum(count_rows(length, 2, pipeline, output) for output in outputs)
                self.assertEqual(total, 2 ** length)

    def test_small_lengths(self):
        for length in range(14):
            for kinds in (2, 3, 5, 26):
                for pipeline in ("", "T", "S", "TS", "ST", "SST", "TSS", "STST", "SSSSTS"):
                    self.check(length, kinds, pipeline)

    def test_length_40(self):
        for pipeline in SIX:
            self.check(40, 26, pipeline)
        for pipeline in ("", "T", "S", "TTTTTT", "SSSSSS", "SSSTSS"):
            for kinds in (2, 3, 25):
                self.check(40, kinds, pipeline)
                self.check(39, kinds, pipeline)


class Bounds(unittest.TestCase):
    def test_each_answers_at_once(self):
        for pipeline in SIX:
            for output in ("", "a", "zz", "abc", "abababababab", "aabbccddeeff", "z" * 12):
                started = perf_counter()
                count_rows(40, 26, pipeline, output)
                self.assertLess(perf_counter() - started, 1, (pipeline, output))

    def test_shortest_rows(self):
        # Of the least length, there are as many rows as there are ways to part all pairs.
        for pipeline in PIPELINES:
            for output in ("a", "aa", "zyx", "aab", "mmnn", "aaaa", "aabbccddeeff"):
                least = grown(pipeline, plain_size(output))[0]
                expected = 25 ** free_letters(pipeline, output)
                if least <= 60:
                    self.assertEqual(count_rows(least, 26, pipeline, output), expected)
                    self.assertEqual(count_rows(least - 1, 26, pipeline, output), 0)

    def test_rows_that_are_a_little_longer(self):
        # A dropped run stands in front of the letter that is kept or behind it.
        self.assertEqual(count_rows(3, 26, "S", "a"), 2 * 25)
        self.assertEqual(count_rows(4, 26, "S", "a"), 2 * 25)
        self.assertEqual(count_rows(3, 26, "T", "a"), 1 + 2 * 25)

    def test_rows_without_pairs(self):
        for kinds in (2, 3, 26):
            self.assertEqual(count_rows(40, kinds, "T", ""), kinds * (kinds - 1) ** 39)
            self.assertEqual(count_rows(40, kinds, "TTTTTT", ""), kinds ** 40)


class Errors(Raising):
    def test_length(self):
        for length in (-1, -40, -10 ** 20):
            self.assert_value(InvalidNumber, length, count_rows, length, 2, "T", "a")

    def test_pipeline(self):
        self.assert_value(InvalidPipeline, 0, count_rows, 5, 2, "x", "a")
        self.assert_value(InvalidPipeline, 5, count_rows, 5, 2, "TTTTTt", "a")

    def test_row(self):
        self.assert_value(InvalidRow, 0, count_rows, 5, 2, "T", "A")
        self.assert_value(InvalidRow, 11, count_rows, 5, 2, "", "abababababa{")

    def test_kinds(self):
        for kinds in (1, 0, -1, 27, 10 ** 20, -10 ** 20):
            for output in ("", "a", "zz"):
                self.assert_value(InvalidNumber, kinds, count_rows, 5, kinds, "T", output)

    def test_letters_beyond_the_kinds(self):
        for kinds in range(2, 26):
            self.assert_value(InvalidRow, 0, count_rows, 5, kinds, "T", ALPHABET[kinds])
            self.assert_value(InvalidRow, 2, count_rows, 0, kinds, "", "ab" + ALPHABET[kinds:] + "z")
            self.assertEqual(count_rows(1, kinds, "", ALPHABET[kinds - 1]), 1)
        self.assertEqual(count_rows(1, 26, "", "z"), 1)

    def test_order(self):
        self.assert_value(InvalidNumber, -1, count_rows, -1, 1, "x", "A")
        self.assert_value(InvalidPipeline, 1, count_rows, 0, 27, "Tx", "A")
        self.assert_value(InvalidRow, 2, count_rows, 0, 1, "T", "zzA")
        self.assert_value(InvalidRow, 1, count_rows, 5, 2, "T", "zA")
        self.assert_value(InvalidNumber, 1, count_rows, 5, 1, "T", "zz")
        self.assert_value(InvalidRow, 1, count_rows, 5, 2, "T", "az")

    def test_an_output_that_is_too_long_does_not_hide_them(self):
        self.assert_value(InvalidNumber, 1, count_rows, 0, 1, "TTT", "aaaa")
        self.assert_value(InvalidRow, 3, count_rows, 0, 2, "TTT", "aaac")


class Calls(unittest.TestCase):
    def test_by_name(self):
        self.assertEqual(count_rows(length=4, kinds=3, pipeline="S", output="aa"), 2)
        self.assertEqual(count_rows(output="aa", pipeline="S", kinds=3, length=4), 2)

    def test_a_second_call_answers_the_same(self):
        for _ in range(2):
            self.assertEqual(count_rows(3, 4, "T", ""), 36)
            self.assertEqual(count_rows(3, 2, "T", ""), 2)


class PassedOn(unittest.TestCase):
    """[2]: a returned value may be passed on whatever its size."""

    def test_long_pipelines(self):
        pipeline = pipeline_of((100000, 1), "aa")
        # Rows of at most 40 letters stay the same from the twentieth sieve S on.
        for output in ("", "ab", "aba"):
            expected = count_rows(40, 3, "S" * 20, output)
            self.assertEqual(count_rows(40, 3, pipeline, output), expected)
        self.assertEqual(count_rows(40, 3, pipeline, "aa"), 0)
        self.assertEqual(count_rows(40, 3, "TTT" * 1000, ""), 3 ** 40)
        self.assertEqual(count_rows(40, 3, "TTT" * 1000, "a"), 0)

    def test_least_lengths(self):
        for pipeline in SIX:
            for output in ("a", "aa", "aaab", "z" * 12):
                length = least_size(pipeline, output)[0]
                expected = 25 ** free_letters(pipeline, output)
                self.assertEqual(count_rows(length, 26, pipeline, output), expected)
                self.assertEqual(count_rows(length - 1, 26, pipeline, output), 0)

    def test_long_outputs(self):
        self.assertEqual(count_rows(40, 3, "SS", "ab" * 100), 0)
        self.assertEqual(count_rows(200, 3, "", "ab" * 100), 1)


if __name__ == "__main__":
    unittest.main()

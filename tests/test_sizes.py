"""Promises [2], [7] and [8]: the sizes of the shortest rows, and pipelines read back."""

import unittest

from raising import Raising
from reference import apply, grown, plain_size, rows_before, search_pipeline, words

from twinsieve.errors import InvalidNumber, InvalidPipeline, InvalidRow
from twinsieve.sieves import sieve, size
from twinsieve.sizes import least_size, pipeline_of, repeated_size, repeated_size_mod

PIPELINES = words("TS", 4)
LONG_PIPELINES = ("T" * 12, "S" * 12, "TS" * 6, "ST" * 6, "TTSSTTSSTTSS", "SSSSSTSSSSSS", "TTTTTTSTTTTT")
OUTPUTS = ("", "a", "ab", "aa", "aab", "abba", "aaa", "abcdefghijkl", "aabbccddeeff", "zzzzzzzzzzzz", "abababababaa")
WITH_PAIR = tuple(output for output in OUTPUTS if plain_size(output)[1] > 0)
WITHOUT_PAIR = tuple(output for output in OUTPUTS if plain_size(output)[1] == 0)
TIMES = (0, 1, 2, 3, 7, 8, 199, 200)
BIG = 10 ** 30 - 1
MODULI = (1, 2, 3, 7, 10, 97, 2 ** 64, 10 ** 18 + 9, BIG)


def tried_sizes(letters, longest, pipeline):
    """For each output that a short row leads to: the sizes of the shortest such rows."""
    found = {}
    for row in words(letters, longest):
        output = apply(row, pipeline)
        sizes = found.setdefault(output, [])
        if not sizes or sizes[0][0] == len(row):
            sizes.append(plain_size(row))
    return found


class LeastSize(Raising):
    def check_tried_rows(self, letters, longest):
        for pipeline in PIPELINES:
            found = tried_sizes(letters, longest, pipeline)
            for output in words(letters, longest):
                answer = least_size(pipeline, output)
                if output in found:
                    self.assertEqual(set(found[output]), {answer}, (pipeline, output))
                else:
                    self.assertGreater(answer[0], longest, (pipeline, output))

    def test_tried_rows_of_two_letters(self):
        self.check_tried_rows("ab", 11)

    def test_tried_rows_of_three_letters(self):
        self.check_tried_rows("abc", 8)

    def test_built_rows_of_up_to_200_letters(self):
        for output in ("a", "aa", "abba", "aabbccddeeff"):
            # A row without pairs stays the same under S, so only few sieves add letters to it.
            for pipeline, row in rows_before(output, 200, 12 if output != "a" else 6):
                self.assertEqual(least_size(pipeline, output), plain_size(row), (pipeline, output))

    def test_examples(self):
        self.assertEqual(least_size("TS", "aa"), (9, 4))
        self.assertEqual(least_size("TTT", "a"), (12, 5))

    def test_empty_pipeline_is_the_size_of_the_output(self):
        for output in OUTPUTS:
            self.assertEqual(least_size("", output), plain_size(output))

    def test_empty_output(self):
        for pipeline in PIPELINES + list(LONG_PIPELINES):
            self.assertEqual(least_size(pipeline, ""), (0, 0))

    def test_the_last_sieve_counts_first(self):
        self.assertEqual(least_size("TS", "aab"), (11, 5))
        self.assertEqual(least_size("ST", "aab"), (13, 3))

    def test_long_pipelines(self):
        for pipeline in LONG_PIPELINES:
            for output in OUTPUTS:
                self.assertEqual(least_size(pipeline, output), grown(pipeline, plain_size(output)))
        self.assertEqual(least_size("S" * 12, "aa"), (26, 1))
        self.assertEqual(least_size("T" * 12, "a"), (33461, 13860))

    def test_long_outputs(self):
        self.assertEqual(least_size("T", "a" * 12), (35, 12))
        self.assertEqual(least_size("S", "a" * 12), (34, 11))
        self.assertEqual(least_size("T", "ab" * 6), (24, 12))

    def test_is_a_tuple_of_integers(self):
        answer = least_size("", "aa")
        self.assertIs(type(answer), tuple)
        self.assertEqual([type(number) for number in answer], [int, int])

    def test_errors_in_their_order(self):
        self.assert_value(InvalidPipeline, 0, least_size, "x", "aa")
        self.assert_value(InvalidPipeline, 2, least_size, "TSxS ", "A")
        self.assert_value(InvalidRow, 1, least_size, "TS", "aBC")
        self.assert_value(InvalidRow, 0, least_size, "", " ")


class PipelineOf(Raising):
    def test_examples(self):
        self.assertEqual(pipeline_of((9, 4), "aa"), "TS")
        self.assertIs(pipeline_of((6, 4), "aa"), None)

    def test_all_pipelines_of_up_to_eight_sieves(self):
        for output in WITH_PAIR:
            for pipeline in words("TS", 8):
                row_size = grown(pipeline, plain_size(output))
                self.assertEqual(pipeline_of(row_size, output), pipeline)

    def test_long_pipelines(self):
        for output in WITH_PAIR:
            for pipeline in LONG_PIPELINES:
                self.assertEqual(pipeline_of(least_size(pipeline, output), output), pipeline)

    def test_the_size_of_the_output_itself(self):
        for output in WITH_PAIR:
            self.assertEqual(pipeline_of(plain_size(output), output), "")

    def test_all_small_sizes(self):
        for output in WITH_PAIR:
            goal = plain_size(output)
            for length in range(-6, 81):
                for pairs in range(-6, 81):
                    answer = pipeline_of((length, pairs), output)
                    self.assertEqual(answer, search_pipeline((length, pairs), goal), (length, pairs, output))

    def test_sizes_up_to_100000(self):
        for output in ("aa", "aab", "aabbccddeeff"):
            goal = plain_size(output)
            for pairs in list(range(30000, 50000, 61)) + [41420, 41421, 41422, 33333, 33334, 100000]:
                for length in (100000, 99999, 99998, 2 * pairs, 3 * pairs, pairs):
                    answer = pipeline_of((length, pairs), output)
                    self.assertEqual(answer, search_pipeline((length, pairs), goal), (length, pairs, output))

    def test_long_rows_of_one_sieve(self):
        self.assertEqual(pipeline_of((100000, 1), "aa"), "S" * 49999)
        self.assertIs(pipeline_of((99999, 1), "aa"), None)
        self.assertIs(pipeline_of((100000, 1), "aab"), None)
        self.assertEqual(pipeline_of((99999, 1), "aab"), "S" * 49998)
        self.assertEqual(pipeline_of((99999, 11), "z" * 12), None)
        self.assertEqual(pipeline_of((12 + 22 * 4545, 11), "z" * 12), "S" * 4545)

    def test_negative_numbers_and_zero(self):
        for row_size in ((0, 0), (0, 1), (5, 0), (-2, 1), (2, -1), (-9, -4), (9, -4), (-9, 4), (-10 ** 5, -10 ** 5)):
            for output in WITH_PAIR:
                self.assertIs(pipeline_of(row_size, output), None)

    def test_other_sizes_without_a_pipeline(self):
        for row_size in ((1, 1), (3, 3), (2, 5), (3, 2), (100000, 100000), (99999, 33333), (1, 100000)):
            self.assertIs(pipeline_of(row_size, "aa"), None)

    def test_sizes_smaller_than_the_output(self):
        self.assertIs(pipeline_of((2, 1), "aaa"), None)
        self.assertIs(pipeline_of((5, 2), "aaaa"), None)
        self.assertIs(pipeline_of((8, 11), "z" * 12), None)

    def test_errors_in_their_order(self):
        self.assert_value(InvalidRow, 1, pipeline_of, (9, 4), "aA")
        self.assert_value(InvalidRow, 3, pipeline_of, (9, 4), "abc1")
        for output in WITHOUT_PAIR:
            for row_size in ((9, 4), (0, 0), (1, 0), (-1, -1)):
                self.assert_value(InvalidNumber, None, pipeline_of, row_size, output)


class RepeatedSize(Raising):
    def test_example(self):
        self.assertEqual(repeated_size("T", 5, "a"), (70, 29))

    def test_against_the_repeated_pipeline(self):
        for pipeline in PIPELINES + list(LONG_PIPELINES):
            for output in OUTPUTS:
                for times in TIMES[:6]:
                    self.assertEqual(
                        repeated_size(pipeline, times, output), grown(pipeline * times, plain_size(output))
                    )

    def test_up_to_200_times(self):
        for pipeline in ("T", "S", "TS", "STT") + LONG_PIPELINES:
            for times in TIMES:
                self.assertEqual(repeated_size(pipeline, times, "aab"), grown(pipeline * times, (3, 1)))

    def test_each_number_of_times(self):
        for times in range(201):
            self.assertEqual(repeated_size("TSS", times, "abb"), grown("TSS" * times, (3, 1)))

    def test_no_times_and_no_sieves(self):
        for output in OUTPUTS:
            self.assertEqual(repeated_size("TS", 0, output), plain_size(output))
            self.assertEqual(repeated_size("", 0, output), plain_size(output))
            self.assertEqual(repeated_size("", 200, output), plain_size(output))

    def test_is_a_tuple_of_integers(self):
        for times in (0, 3):
            answer = repeated_size("T", times, "aa")
            self.assertIs(type(answer), tuple)
            self.assertEqual([type(number) for number in answer], [int, int])

    def test_errors_in_their_order(self):
        self.assert_value(InvalidPipeline, 1, repeated_size, "Tx", -1, "A")
        self.assert_value(InvalidNumber, -1, repeated_size, "TS", -1, "A")
        self.assert_value(InvalidNumber, -BIG, repeated_size, "", -BIG, "A")
        self.assert_value(InvalidRow, 0, repeated_size, "TS", 0, "A")
        self.assert_value(InvalidRow, 2, repeated_size, "TS", 2, "abCD")


def slow_mod(pipeline, times, size_of_output, modulus):
    """The size modulo a modulus, found by doubling the matrix of the pipeline digit by digit."""
    columns = [grown(pipeline, (1, 0)), grown(pipeline, (0, 1))]
    matrix = [[columns[0][0], columns[1][0]], [columns[0][1], columns[1][1]]]

    def product(left, right):
        return [
            [sum(left[row][k] * right[k][at] for k in range(2)) % modulus for at in range(2)]
            for row in range(2)
        ]

    result = [[1, 0], [0, 1]]
    for digit in bin(times)[2:]:
        result = product(result, result)
        if digit == "1":
            result = product(result, matrix)
    return tuple((row[0] * size_of_output[0] + row[1] * size_of_output[1]) % modulus for row in result)


class RepeatedSizeMod(Raising):
    def test_example(self):
        self.assertEqual(repeated_size_mod("TS", 10 ** 20, "aa", 7), (2, 1))

    def test_against_the_exact_size(self):
        for pipeline in ("", "T", "S", "TS", "STT") + LONG_PIPELINES:
            for output in ("", "a", "aab", "abcdefghijkl"):
                for times in TIMES:
                    n, e = grown(pipeline * times, plain_size(output))
                    for modulus in MODULI:
                        answer = repeated_size_mod(pipeline, times, output, modulus)
                        self.assertEqual(answer, (n % modulus, e % modulus))

    def test_large_times(self):
        for times in (10 ** 20, 10 ** 29 + 12345, 2 ** 99, BIG, 10 ** 60 + 1):
            for pipeline in ("T", "S", "TS", "ST", "TTSSTTSSTTSS"):
                for modulus in MODULI:
                    for output in ("aa", "abcaab"):
                        self.assertEqual(
                            repeated_size_mod(pipeline, times, output, modulus),
                            slow_mod(pipeline, times, plain_size(output), modulus),
                        )

    def test_many_sieves_of_one_kind(self):
        self.assertEqual(repeated_size_mod("S", BIG, "aa", BIG), (2, 1))
        self.assertEqual(repeated_size_mod("S", BIG - 1, "aa", BIG), (0, 1))
        self.assertEqual(repeated_size_mod("S", BIG, "ab", BIG - 1), (2, 0))

    def test_modulus_one(self):
        for times in (0, 1, 200, BIG):
            for pipeline in ("", "T", "TS"):
                self.assertEqual(repeated_size_mod(pipeline, times, "aaa", 1), (0, 0))

    def test_no_times_and_no_sieves(self):
        self.assertEqual(repeated_size_mod("TS", 0, "aaaaaaa", 4), (3, 2))
        self.assertEqual(repeated_size_mod("", BIG, "aaaaaaa", 4), (3, 2))
        self.assertEqual(repeated_size_mod("", 0, "aa", BIG), (2, 1))

    def test_period(self):
        # The example of the document rests on this: the sizes of TS modulo 7 repeat.
        rows = [repeated_size_mod("TS", times, "aa", 7) for times in range(200)]
        self.assertEqual(rows, [tuple(k % 7 for k in grown("TS" * times, (2, 1))) for times in range(200)])

    def test_is_a_tuple_of_integers(self):
        for times in (0, 3):
            answer = repeated_size_mod("T", times, "aa", 5)
            self.assertIs(type(answer), tuple)
            self.assertEqual([type(number) for number in answer], [int, int])

    def test_errors_in_their_order(self):
        self.assert_value(InvalidPipeline, 1, repeated_size_mod, "Tx", -1, "A", 0)
        self.assert_value(InvalidNumber, -2, repeated_size_mod, "TS", -2, "A", 0)
        self.assert_value(InvalidRow, 1, repeated_size_mod, "TS", 2, "aB", 0)
        self.assert_value(InvalidNumber, 0, repeated_size_mod, "TS", 2, "ab", 0)
        self.assert_value(InvalidNumber, -7, repeated_size_mod, "", 0, "", -7)


class Calls(unittest.TestCase):
    def test_by_name(self):
        self.assertEqual(least_size(pipeline="TS", output="aa"), (9, 4))
        self.assertEqual(least_size(output="aa", pipeline="TS"), (9, 4))
        self.assertEqual(pipeline_of(row_size=(9, 4), output="aa"), "TS")
        self.assertEqual(pipeline_of(output="aa", row_size=(9, 4)), "TS")
        self.assertEqual(repeated_size(pipeline="T", times=5, output="a"), (70, 29))
        self.assertEqual(repeated_size(output="a", times=5, pipeline="T"), (70, 29))
        self.assertEqual(repeated_size_mod(pipeline="TS", times=10 ** 20, output="aa", modulus=7), (2, 1))
        self.assertEqual(repeated_size_mod(modulus=7, output="aa", times=10 ** 20, pipeline="TS"), (2, 1))

    def test_a_second_call_answers_the_same(self):
        row_size = (9, 4)
        for _ in range(2):
            self.assertEqual(pipeline_of(row_size, "aa"), "TS")
            self.assertEqual(least_size("TS", "aa"), (9, 4))
            self.assertEqual(repeated_size("T", 5, "a"), (70, 29))
            self.assertEqual(repeated_size_mod("TS", 10 ** 20, "aa", 7), (2, 1))
        self.assertEqual(row_size, (9, 4))


class PassedOn(unittest.TestCase):
    """[2]: a returned value may be passed on whatever its size."""

    def test_sizes_of_2400_sieves(self):
        for pipeline in LONG_PIPELINES:
            for output in ("aa", "aabbccddeeff"):
                row_size = repeated_size(pipeline, 200, output)
                found = pipeline_of(row_size, output)
                self.assertEqual(found, pipeline * 200)
                self.assertEqual(least_size(found, output), row_size)
                self.assertEqual(repeated_size(found, 1, output), row_size)
                self.assertEqual(
                    repeated_size_mod(found, 3, output, BIG), repeated_size_mod(pipeline, 600, output, BIG)
                )

    def test_large_size_for_another_output(self):
        self.assertIs(pipeline_of(repeated_size("TS", 200, "ab"), "aa"), None)
        self.assertIs(pipeline_of(repeated_size("TSS", 200, "aab"), "aaa"), None)

    def test_large_pipeline(self):
        found = pipeline_of((100000, 1), "aa")
        self.assertEqual(least_size(found, "aa"), (100000, 1))
        self.assertEqual(sieve("abbaba", found), "ba")
        row_size = repeated_size(found, 200, "aa")
        self.assertEqual(row_size, (2 + 2 * 49999 * 200, 1))
        self.assertEqual(len(pipeline_of(row_size, "aa")), 49999 * 200)
        self.assertEqual(repeated_size_mod(found, BIG, "aa", 7), ((2 + 2 * 49999 * BIG) % 7, 1))

    def test_remainders_as_a_size(self):
        # Remainders can stand for far more sieves than a string can hold, so
        # finding no pipeline must not build one.
        self.assertIs(pipeline_of((BIG, 2), "aaab"), None)
        for times in range(50):
            rest = repeated_size_mod("TSS", BIG - times, "aab", BIG)
            pipeline_of(rest, "ababababaa")

    def test_large_numbers_as_times_and_modulus(self):
        n, e = repeated_size("TS", 200, "aa")
        answer = repeated_size_mod("TSS", n, "aa", e)
        self.assertEqual(answer, slow_mod("TSS", n, (2, 1), e))

    def test_rows_as_outputs(self):
        row = sieve("aabbc" * 40, "S")
        self.assertEqual(least_size("T", row), grown("T", plain_size(row)))
        self.assertEqual(size(row), plain_size(row))


if __name__ == "__main__":
    unittest.main()

"""Promises [2], [6] and [7]: the shortest rows, their number and their numbers; the checks of kinds."""

import unittest

from raising import Raising
from reference import all_shortest, apply, free_letters, grown, plain_size, tried_rows, words

from twinsieve.errors import InvalidNumber, InvalidPipeline, InvalidRow
from twinsieve.shortest import count_shortest, nth_shortest, shortest_number
from twinsieve.sizes import pipeline_of

ALPHABET = "abcdefghijklmnopqrstuvwxyz"
PIPELINES = words("TS", 4)
WRONG_KINDS = (1, 0, -1, -26, 27, 28, 10 ** 20, -10 ** 20)
GREAT = 10 ** 30 - 1
# Shortest rows of up to 300 letters.
LONG = (
    ("", "abcdefghijkl"), ("", "z" * 12), ("T", "z" * 12), ("S" * 12, "z" * 12), ("S" * 12, "aabbccddeeff"),
    ("S" * 12, "abcdefghijkl"), ("TTTTT", "a"), ("TTTTT", "aa"), ("TTTT", "aabz"), ("TTSS", "aaab"),
    ("TS" * 3, "aa"), ("ST" * 3, "aa"), ("SSSSTSSSSTSS", "a"), ("SSSSSTSSSSSS", "aa"), ("TSTSTSS", "aa"),
    ("SSSSTSSSSS", "aaa"), ("TSSSSSSSSSSS", "aaa"), ("STTSSSSSSSSS", "abba"), ("TSSTS", "zyxxyz"),
    ("SSSSSSSSSSTT", "m"), ("T" * 12, ""), ("STSTSTSTSTST", ""),
)


class AgainstTriedRows(unittest.TestCase):
    def check(self, letters, longest):
        compared = 0
        for pipeline in PIPELINES:
            for output, rows in tried_rows(letters, longest, pipeline).items():
                if len(output) > 3:
                    continue
                kinds = len(letters)
                answers = [nth_shortest(pipeline, output, kinds, number) for number in range(len(rows))]
                self.assertEqual(answers, rows, (pipeline, output))
                self.assertEqual(count_shortest(pipeline, output, kinds), len(rows))
                for number, row in enumerate(rows):
                    self.assertEqual(shortest_number(pipeline, row, kinds), number)
                compared += 1
        return compared

    def test_two_kinds(self):
        self.assertGreater(self.check("ab", 12), 150)

    def test_three_kinds(self):
        self.assertGreater(self.check("abc", 8), 200)

    def test_every_row_has_its_number_or_none(self):
        for letters, longest in (("ab", 9), ("abc", 6)):
            for pipeline in PIPELINES:
                found = tried_rows(letters, longest, pipeline)
                for row in words(letters, longest):
                    rows = found[apply(row, pipeline)]
                    expected = rows.index(row) if row in rows else None
                    self.assertEqual(shortest_number(pipeline, row, len(letters)), expected, (pipeline, row))


class AgainstBuiltRows(Raising):
    """All pipelines of up to four sieves, also those with rows that are too long to be tried out."""

    def check_all(self, pipeline, output, letters):
        rows = all_shortest(pipeline, output, letters)
        kinds = len(letters)
        self.assertEqual(count_shortest(pipeline, output, kinds), len(rows))
        for number, row in enumerate(rows):
            self.assertEqual(apply(row, pipeline), output)
            self.assertEqual(nth_shortest(pipeline, output, kinds, number), row)
            self.assertEqual(shortest_number(pipeline, row, kinds), number)
        for number in (-1, len(rows)):
            self.assert_value(InvalidNumber, number, nth_shortest, pipeline, output, kinds, number)

    def check_some(self, pipeline, output, kinds):
        count = (kinds - 1) ** free_letters(pipeline, output)
        self.assertEqual(count_shortest(pipeline, output, kinds), count)
        near = {0, 1, 2, 3, count // 3, count // 2, count // 2 + 1, count - 2, count - 1}
        numbers = sorted(number for number in near if 0 <= number < count)
        rows = [nth_shortest(pipeline, output, kinds, number) for number in numbers]
        self.assertEqual(rows, sorted(set(rows)))
        for number, row in zip(numbers, rows):
            self.assertEqual(apply(row, pipeline), output)
            self.assertEqual(plain_size(row), grown(pipeline, plain_size(output)))
            self.assertLess(max(row, default="a"), (ALPHABET + "{")[kinds])
            self.assertEqual(shortest_number(pipeline, row, kinds), number)
        for number in (-1, -count, count, count + 1, GREAT * count):
            self.assert_value(InvalidNumber, number, nth_shortest, pipeline, output, kinds, number)

    def test_two_and_three_kinds(self):
        for letters in ("ab", "abc"):
            for pipeline in PIPELINES:
                for output in words(letters, 3):
                    if (len(letters) - 1) ** free_letters(pipeline, output) <= 64:
                        self.check_all(pipeline, output, letters)
                    else:
                        self.check_some(pipeline, output, len(letters))

    def test_many_rows(self):
        self.check_all("TS", "bcb", "abc")
        self.check_all("TT", "bbb", "abc")
        self.check_all("STS", "bb", "abc")
        self.check_all("SS", "ccd", "abcdefgh")
        self.check_all("T", "zz", ALPHABET)

    def test_long_rows(self):
        for pipeline, output in LONG:
            self.assertLessEqual(grown(pipeline, plain_size(output))[0], 300)
            least = max([ord(letter) - 96 for letter in output] + [2])
            for kinds in sorted({least, min(least + 1, 26), 17, 26}):
                if kinds >= least:
                    self.check_some(pipeline, output, kinds)

    def test_a_row_of_300_letters(self):
        for kinds in (2, 3, 26):
            self.check_some("S" * 149, "aa", kinds)
            self.assertEqual(len(nth_shortest("S" * 149, "aa", kinds, 0)), 300)


class Examples(unittest.TestCase):
    def test_of_the_document(self):
        self.assertEqual(count_shortest("T", "aa", 3), 2)
        self.assertEqual(nth_shortest("T", "aa", 3, 1), "aacaa")
        self.assertEqual(shortest_number("T", "aacaa", 3), 1)
        self.assertEqual(count_shortest("TS", "aa", 2), 1)

    def test_empty_output_and_empty_pipeline(self):
        for kinds in (2, 26):
            for pipeline in PIPELINES:
                self.assertEqual(count_shortest(pipeline, "", kinds), 1)
                self.assertEqual(nth_shortest(pipeline, "", kinds, 0), "")
                self.assertEqual(shortest_number(pipeline, "", kinds), 0)
            self.assertEqual(count_shortest("", "abba", kinds), 1)
            self.assertEqual(nth_shortest("", "abba", kinds, 0), "abba")
            self.assertEqual(shortest_number("", "abba", kinds), 0)

    def test_rows_that_are_longer_than_the_shortest_ones(self):
        for pipeline, row in (("T", "aaa"), ("T", "a"), ("S", "bb"), ("T", "aabba"), ("TTT", "a" * 200)):
            self.assertIs(shortest_number(pipeline, row, 2), None)
        for pipeline, output in LONG:
            if pipeline and output:
                dropped = "z" if pipeline[0] == "T" else "qq"
                longer = dropped + nth_shortest(pipeline, output, 26, 0)
                self.assertEqual(apply(longer, pipeline), output)
                self.assertIs(shortest_number(pipeline, longer, 26), None)

    def test_answers_are_of_their_kinds(self):
        self.assertIs(type(count_shortest("", "a", 2)), int)
        self.assertIs(type(nth_shortest("", "a", 2, 0)), str)
        self.assertIs(type(shortest_number("", "a", 2)), int)

    def test_a_row_with_letters_to_spare(self):
        # The number depends on the number of kinds, not on the letters of the row.
        self.assertEqual(shortest_number("S", "accbba", 3), None)
        self.assertEqual([shortest_number("SS", "abccba", kinds) for kinds in (3, 4, 26)], [1, 1, 1])
        self.assertEqual([shortest_number("SS", "acbbca", kinds) for kinds in (3, 4, 26)], [3, 4, 26])


class Numbers(Raising):
    def test_numbers_without_a_row(self):
        for pipeline, output, kinds, count in (
            ("", "", 2, 1), ("", "aab", 3, 1), ("T", "aa", 2, 1), ("T", "aa", 3, 2), ("T", "aaa", 26, 625),
            ("TS", "aa", 3, 4), ("TTTTT", "", 26, 1),
        ):
            self.assertEqual(count_shortest(pipeline, output, kinds), count)
            for number in (0, count - 1):
                row = nth_shortest(pipeline, output, kinds, number)
                self.assertEqual(shortest_number(pipeline, row, kinds), number)
            for number in (count, count + 1, -1, -count, -GREAT, GREAT, 10 ** 200):
                self.assert_value(InvalidNumber, number, nth_shortest, pipeline, output, kinds, number)


class Kinds(Raising):
    def calls(self):
        return (
            lambda kinds, row: count_shortest("", row, kinds),
            lambda kinds, row: nth_shortest("", row, kinds, 0),
            lambda kinds, row: shortest_number("", row, kinds),
        )

    def test_wrong_kinds(self):
        for call in self.calls():
            for kinds in WRONG_KINDS:
                for row in ("", "a", "zz"):
                    self.assert_value(InvalidNumber, kinds, call, kinds, row)

    def test_letters_beyond_the_kinds(self):
        for call in self.calls():
            for kinds in range(2, 26):
                beyond = ALPHABET[kinds]
                self.assert_value(InvalidRow, 0, call, kinds, beyond)
                self.assert_value(InvalidRow, 3, call, kinds, "abazb" + beyond)
                self.assert_value(InvalidRow, 11, call, kinds, "ab" * 5 + ALPHABET[kinds - 1] + beyond)

    def test_all_letters_of_the_kinds(self):
        for kinds in range(2, 27):
            row = ALPHABET[:kinds]
            self.assertEqual(count_shortest("", row, kinds), 1)
            self.assertEqual(nth_shortest("", row, kinds, 0), row)
            self.assertEqual(shortest_number("", row, kinds), 0)
            self.assertEqual(count_shortest("T", "aa", kinds), kinds - 1)


class ErrorsInTheirOrder(Raising):
    def check(self, call):
        """The call takes the pipeline, the output or row, and the kinds."""
        self.assert_value(InvalidPipeline, 1, call, "Tx", "aA", 1)
        self.assert_value(InvalidPipeline, 2, call, "STt", "ac", 2)
        self.assert_value(InvalidPipeline, 0, call, " ", "a", 27)
        self.assert_value(InvalidRow, 1, call, "TS", "zA", 0)
        self.assert_value(InvalidRow, 2, call, "TS", "zz{", 3)
        self.assert_value(InvalidRow, 0, call, "", "\u00e9z", 1)
        self.assert_value(InvalidNumber, 1, call, "TS", "zz", 1)
        self.assert_value(InvalidNumber, 27, call, "TS", "az", 27)
        self.assert_value(InvalidRow, 1, call, "TS", "az", 25)

    def test_count_shortest(self):
        self.check(count_shortest)

    def test_shortest_number(self):
        self.check(shortest_number)

    def test_nth_shortest(self):
        for number in (0, -1, GREAT):
            self.check(lambda pipeline, output, kinds: nth_shortest(pipeline, output, kinds, number))
        self.assert_value(InvalidNumber, -1, nth_shortest, "TS", "aa", 2, -1)
        self.assert_value(InvalidNumber, 1, nth_shortest, "TS", "aa", 2, 1)


class Calls(unittest.TestCase):
    def test_by_name(self):
        self.assertEqual(count_shortest(pipeline="T", output="aa", kinds=3), 2)
        self.assertEqual(count_shortest(kinds=3, output="aa", pipeline="T"), 2)
        self.assertEqual(nth_shortest(pipeline="T", output="aa", kinds=3, number=1), "aacaa")
        self.assertEqual(nth_shortest(number=1, kinds=3, output="aa", pipeline="T"), "aacaa")
        self.assertEqual(shortest_number(pipeline="T", row="aacaa", kinds=3), 1)
        self.assertEqual(shortest_number(kinds=3, row="aacaa", pipeline="T"), 1)

    def test_a_second_call_answers_the_same(self):
        for _ in range(2):
            self.assertEqual(count_shortest("TS", "aa", 3), 4)
            self.assertEqual(nth_shortest("TS", "aa", 3, 3), "aaccbccaa")
            self.assertEqual(shortest_number("TS", "aaccbccaa", 3), 3)


class PassedOn(unittest.TestCase):
    """[2]: a returned value may be passed on whatever its size."""

    def test_long_pipelines(self):
        pipeline = pipeline_of((100000, 1), "aa")
        self.assertEqual(count_shortest(pipeline, "abc", 3), 1)
        self.assertEqual(nth_shortest(pipeline, "abc", 3, 0), "abc")
        self.assertEqual(shortest_number(pipeline, "abc", 3), 0)
        self.assertIs(shortest_number(pipeline, "abba", 3), None)
        self.assertEqual(nth_shortest("T" + pipeline, "ab" * 6, 3, 0), "aabb" * 6)

    def test_long_rows_and_numbers(self):
        count = count_shortest("S" * 149, "aa", 26)
        self.assertEqual(count, 25 ** 149)
        row = nth_shortest("S" * 149, "aa", 26, count - 1)
        self.assertEqual(row, "az" + "yz" * 74 + "zy" * 74 + "za")
        self.assertEqual(shortest_number("S" * 149, row, 26), count - 1)
        self.assertEqual(nth_shortest("", row, 26, 0), row)
        self.assertEqual(count_shortest("", row, 26), 1)


if __name__ == "__main__":
    unittest.main()

"""Promises [2] and [8]: a row that two pipelines lead to different outputs."""

import unittest

from raising import Raising
from reference import apply, words

from twinsieve.errors import InvalidPipeline
from twinsieve.parting import parting_row
from twinsieve.sieves import sieve
from twinsieve.sizes import pipeline_of

LETTERS = set("abcdefghijklmnopqrstuvwxyz")
SIX = [pipeline for pipeline in words("TS", 6) if len(pipeline) == 6]


class PartingRow(Raising):
    def check(self, first, second):
        """Both orders of a pair of different pipelines."""
        for one, other in ((first, second), (second, first)):
            row = parting_row(one, other)
            self.assertIs(type(row), str)
            self.assertLessEqual(set(row), LETTERS)
            self.assertNotEqual(sieve(row, one), sieve(row, other), (one, other))
            self.assertNotEqual(apply(row, one), apply(row, other), (one, other))

    def test_example(self):
        row = parting_row("TS", "ST")
        self.assertIs(sieve(row, "TS") == sieve(row, "ST"), False)

    def test_equal_pipelines(self):
        for pipeline in words("TS", 6):
            self.assertIs(parting_row(pipeline, pipeline), None)

    def test_equal_pipelines_that_are_two_strings(self):
        for pipeline in ("", "T", "TS", "STSTST"):
            self.assertIs(parting_row(pipeline, "".join(list(pipeline))), None)

    def test_all_pairs_of_up_to_four_sieves(self):
        short = words("TS", 4)
        for at, first in enumerate(short):
            for second in short[:at]:
                self.check(first, second)

    def test_the_empty_pipeline_and_any_other_one(self):
        for pipeline in words("TS", 6)[1:]:
            self.check("", pipeline)

    def test_one_sieve_is_another_one(self):
        for pipeline in SIX:
            for at in range(6):
                if pipeline[at] == "T":
                    self.check(pipeline, pipeline[:at] + "S" + pipeline[at + 1:])

    def test_two_neighbours_have_changed_places(self):
        for pipeline in SIX:
            for at in range(5):
                if pipeline[at:at + 2] == "TS":
                    self.check(pipeline, pipeline[:at] + "ST" + pipeline[at + 2:])

    def test_other_numbers_of_sieves(self):
        for pipeline in SIX:
            for many in range(6):
                self.check(pipeline, pipeline[:many])
                self.check(pipeline, pipeline[6 - many:])
        for kind in "TS":
            for many in range(6):
                self.check(kind * 6, kind * many)

    def test_common_beginnings_and_ends(self):
        three = [pipeline for pipeline in words("TS", 3) if len(pipeline) == 3]
        for common in three:
            for at, first in enumerate(three):
                for second in three[:at]:
                    self.check(common + first, common + second)
                    self.check(first + common, second + common)

    def test_pairs_of_six_sieves(self):
        for at in range(0, len(SIX), 5):
            for second in SIX[:at]:
                self.check(SIX[at], second)

    def test_errors_in_their_order(self):
        self.assert_value(InvalidPipeline, 0, parting_row, "x", "Ty")
        self.assert_value(InvalidPipeline, 2, parting_row, "TSx", "y")
        self.assert_value(InvalidPipeline, 1, parting_row, "TS", "TxS")
        self.assert_value(InvalidPipeline, 5, parting_row, "", "TTSSTs")
        self.assert_value(InvalidPipeline, 0, parting_row, "t", "")

    def test_equal_wrong_pipelines(self):
        self.assert_value(InvalidPipeline, 1, parting_row, "Tx", "Tx")

    def test_by_name(self):
        row = parting_row(first="TS", second="ST")
        self.assertNotEqual(apply(row, "TS"), apply(row, "ST"))
        row = parting_row(second="T", first="")
        self.assertNotEqual(apply(row, ""), apply(row, "T"))
        # Which of the two is wrong shows which one has which name.
        with self.assertRaises(InvalidPipeline) as caught:
            parting_row(second="x", first="TTx")
        self.assertEqual(caught.exception.value, 2)

    def test_long_returned_pipelines(self):
        """[2]: a returned value may be passed on whatever its size."""
        first, second = pipeline_of((4000, 1), "aa"), pipeline_of((4002, 1), "aa")
        self.assertIs(parting_row(first, first), None)
        self.check(first, second)
        self.check(first, "T" + first)
        self.check("TTTTTT", second)


if __name__ == "__main__":
    unittest.main()

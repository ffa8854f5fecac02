"""Promises [2], [7], [8] and [9] across the files: what one function returns is passed on to the others."""

import unittest

from raising import Raising
from reference import apply, words

from twinsieve import errors
from twinsieve.counting import count_rows
from twinsieve.listing import count_pipelines, pipelines, total_cost
from twinsieve.live import SieveRow
from twinsieve.parting import parting_row
from twinsieve.readings import read_pipeline
from twinsieve.results import results
from twinsieve.shortest import count_shortest, nth_shortest, shortest_number
from twinsieve.sieves import sieve, size, stages
from twinsieve.sizes import least_size, pipeline_of, repeated_size, repeated_size_mod
from twinsieve.texts import show_pipeline

LISTED = list(pipelines(40))


class OnePipeline(unittest.TestCase):
    """All that the functions say of one pipeline and of its shortest rows for aa."""

    def test_texts_sizes_and_numbers(self):
        for pipeline in LISTED:
            row_size = least_size(pipeline, "aa")
            self.assertEqual(read_pipeline(show_pipeline(pipeline)), pipeline_of(row_size, "aa"))
            self.assertEqual(repeated_size(pipeline, 1, "aa"), row_size)
            self.assertEqual(repeated_size_mod(pipeline, 1, "aa", 10 ** 9), row_size)
            count = count_shortest(pipeline, "aa", 26)
            self.assertEqual(count_rows(row_size[0], 26, pipeline, "aa"), count)
            last = nth_shortest(pipeline, "aa", 26, count - 1)
            self.assertEqual([size(last), shortest_number(pipeline, last, 26)], [row_size, count - 1])

    def test_the_row_that_is_sieved(self):
        for pipeline in LISTED:
            live = SieveRow.shortest(pipeline, "aa")
            self.assertEqual(size(live.row), least_size(pipeline, "aa"))
            self.assertEqual(shortest_number(pipeline, live.row, 26), 0)
            first = live.row
            live.sieve(read_pipeline(show_pipeline(pipeline)))
            self.assertEqual(list(live.history()), list(stages(first, pipeline)))
            self.assertEqual(live.row, "aa")

    def test_what_the_row_can_become(self):
        for pipeline in LISTED:
            row = SieveRow.shortest(pipeline, "aa").row
            found = {result: other for other, result in results(row)}
            # A pipeline that comes before it may lead this row to aa too, if it needs fewer letters.
            self.assertLessEqual((len(found["aa"]), found["aa"]), (len(pipeline), pipeline))
            if found["aa"] != pipeline:
                self.assertLess(least_size(found["aa"], "aa")[0], len(row))
            for result, other in found.items():
                live = SieveRow(row)
                live.sieve(other)
                self.assertEqual(live.row, result)
                self.assertLessEqual(least_size(other, result)[0], len(row))

    def test_costs(self):
        self.assertEqual(count_pipelines(40), len(LISTED))
        for sieves in range(4):
            costs = [least_size(pipeline, "aa")[0] for pipeline in words("TS", sieves) if len(pipeline) == sieves]
            self.assertEqual(total_cost(sieves), sum(costs))


class TwoPipelines(unittest.TestCase):
    def test_parting_rows(self):
        short = words("TS", 3)
        for first in short:
            for second in short:
                row = parting_row(first, second)
                self.assertIs(row is None, first == second)
                if row is None:
                    continue
                one, other = SieveRow(row), SieveRow(row)
                one.sieve(first)
                other.sieve(second)
                self.assertNotEqual(one.row, other.row)
                self.assertLessEqual({one.row, other.row}, {result for pipeline, result in results(row)})


class CountedRows(unittest.TestCase):
    def test_by_what_the_rows_become(self):
        rows = [row for row in words("abc", 7) if len(row) == 7]
        for pipeline in ("", "T", "S", "ST", "TS", "SST"):
            counts = {}
            for row in rows:
                result = sieve(row, pipeline)
                counts[result] = counts.get(result, 0) + 1
            for output, count in counts.items():
                self.assertEqual(count_rows(7, 3, pipeline, output), count)


class Errors(Raising):
    """[3]: a wrong argument gives the one error of its kind, whatever the other arguments are."""

    def test_wrong_rows(self):
        for call in (
            size,
            SieveRow,
            lambda row: sieve(row, "T"),
            lambda row: list(stages(row, "T")),
            lambda row: list(results(row)),
            lambda row: least_size("T", row),
            lambda row: pipeline_of((9, 4), row),
            lambda row: repeated_size("T", 2, row),
            lambda row: repeated_size_mod("T", 2, row, 7),
            lambda row: count_shortest("T", row, 3),
            lambda row: nth_shortest("T", row, 3, 0),
            lambda row: shortest_number("T", row, 3),
            lambda row: count_rows(9, 3, "T", row),
            lambda row: SieveRow.shortest("T", row),
        ):
            self.assert_value(errors.InvalidRow, 2, call, "abAB")
            self.assert_value(errors.InvalidRow, 0, call, "\u00e9")

    def test_wrong_pipelines(self):
        for call in (
            SieveRow("").sieve,
            lambda pipeline: sieve("a", pipeline),
            lambda pipeline: list(stages("a", pipeline)),
            lambda pipeline: least_size(pipeline, "a"),
            lambda pipeline: repeated_size(pipeline, 2, "a"),
            lambda pipeline: repeated_size_mod(pipeline, 2, "a", 7),
            lambda pipeline: count_shortest(pipeline, "a", 3),
            lambda pipeline: nth_shortest(pipeline, "a", 3, 0),
            lambda pipeline: shortest_number(pipeline, "a", 3),
            lambda pipeline: parting_row(pipeline, "T"),
            lambda pipeline: parting_row("T", pipeline),
            lambda pipeline: count_rows(9, 3, pipeline, "a"),
            lambda pipeline: SieveRow.shortest(pipeline, "a"),
        ):
            self.assert_value(errors.InvalidPipeline, 2, call, "TSst")
            self.assert_value(errors.InvalidPipeline, 0, call, " T")

    def test_each_is_caught_as_its_base_class(self):
        undo = SieveRow("a").undo
        for call in (undo, lambda: read_pipeline("t"), lambda: SieveRow("A"), lambda: count_pipelines(-1)):
            with self.assertRaises(errors.SieveError) as caught:
                call()
            self.assertIs(type(caught.exception).__base__, errors.SieveError)


class Passing(unittest.TestCase):
    def test_every_output_by_every_pipeline(self):
        for pipeline in words("TS", 4):
            for output in words("ab", 3):
                live = SieveRow.shortest(pipeline, output)
                self.assertEqual(apply(live.row, pipeline), output)
                self.assertEqual(size(live.row), least_size(pipeline, output))


if __name__ == "__main__":
    unittest.main()

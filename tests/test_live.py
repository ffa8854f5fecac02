"""Promises [2], [3], [4], [5] and [7]: a row that is sieved step by step."""

import inspect
import unittest
from itertools import islice, product

from raising import Raising
from reference import all_shortest, apply, free_letters, grown, plain_size, widened, words

from twinsieve.errors import InvalidPipeline, InvalidRow, NothingToUndo
from twinsieve.live import SieveRow
from twinsieve.readings import read_pipeline
from twinsieve.shortest import count_shortest, nth_shortest
from twinsieve.sieves import sieve, stages
from twinsieve.sizes import pipeline_of

ROWS = ("", "a", "zz", "aabaabb", "abccbaaddbba", "aabaabbabbaccaabaabbaabcc")
LONG_ROWS = ("abba" * 50, "aabbbc" * 33 + "dd", "ab" * 50 + "ba" * 50, "aabaabb" * 28 + "cdda")
# Each call of a sequence: the pipelines of sieve, or undo.
CALLS = ((), ("",), ("S",), ("T",), ("TS",), ("S", "T"), ("", "ST", "", "S"), ("Sx",), ("T", "", "Ts"), "undo")


class Following(Raising):
    """Compares an object with the pipeline that it should have."""

    def assert_state(self, live, first, pipeline):
        self.assertEqual(live.row, sieve(first, pipeline))
        self.assertEqual(live.pipeline, pipeline)
        self.assertIs(live.is_empty, sieve(first, pipeline) == "")
        self.assertEqual(list(live.history()), list(stages(first, pipeline)))

    def call(self, live, pipeline, arguments):
        """Make one call, and return the pipeline that the object should have then."""
        if arguments == "undo" and pipeline == "":
            self.assert_value(NothingToUndo, 0, live.undo)
            return pipeline
        if arguments == "undo":
            self.assertIs(live.undo(), None)
            return pipeline[:-1]
        wrong = [at for at, kind in enumerate("".join(arguments)) if kind not in "TS"]
        if wrong:
            self.assert_value(InvalidPipeline, wrong[0], live.sieve, *arguments)
            return pipeline
        self.assertIs(live.sieve(*arguments), None)
        return pipeline + "".join(arguments)


class AfterEveryCall(Following):
    def check(self, row, calls):
        live, pipeline = SieveRow(row), ""
        self.assert_state(live, row, "")
        for arguments in calls:
            pipeline = self.call(live, pipeline, arguments)
            self.assert_state(live, row, pipeline)

    def test_all_sequences_of_three_calls(self):
        for row in ROWS:
            for calls in product(CALLS, repeat=3):
                self.check(row, calls)

    def test_sequences_of_four_calls(self):
        for calls in product(CALLS[2:], repeat=4):
            self.check("aabaabbabbaccaabaabbaabcc", calls)

    def test_all_short_rows_and_pipelines(self):
        for row in words("ab", 6) + words("abc", 4):
            for pipeline in words("TS", 4):
                live = SieveRow(row)
                live.sieve(pipeline)
                self.assertEqual(live.row, apply(row, pipeline))
                self.assert_state(live, row, pipeline)

    def test_many_calls_on_long_rows(self):
        for row in LONG_ROWS:
            self.assertEqual(len(row), 200)
            self.check(row, (CALLS * 10)[:100])
            self.check(row, (("S",), ("S",), "undo", ("T",), ("S",), "undo", ("", "S")) * 14)

    def test_200_sieves(self):
        for row in LONG_ROWS:
            for calls in ([("S",)] * 100 + [("TS" * 50,)], [("S" * 100, "T" * 100)], [("S", "S")] * 99 + [("T", "S")]):
                self.check(row, calls)
            live = SieveRow(row)
            live.sieve(*["S"] * 200)
            self.assert_state(live, row, "S" * 200)

    def test_example(self):
        live = SieveRow("aabaabb")
        live.sieve("T", "TS")
        live.undo()
        answers = [live.row, live.pipeline, live.is_empty, list(live.history())]
        self.assertEqual(answers, ["a", "TT", False, ["aabaabb", "aab", "a"]])

    def test_at_the_start(self):
        self.assertEqual([SieveRow("").row, SieveRow("").pipeline, list(SieveRow("").history())], ["", "", [""]])
        self.assertIs(SieveRow("").is_empty, True)
        self.assertIs(SieveRow("a").is_empty, False)


class Sieve(Following):
    def test_one_call_or_several(self):
        for calls in ([("TS", "ST")], [("T", "S", "S", "T")], [("TSST",)], [("TS",), ("ST",)], [("",), ("TSST", "")]):
            live, pipeline = SieveRow("aabaabbcaab"), ""
            for arguments in calls:
                pipeline = self.call(live, pipeline, arguments)
            self.assert_state(live, "aabaabbcaab", "TSST")

    def test_from_left_to_right(self):
        first, second = SieveRow("aabaab"), SieveRow("aabaab")
        first.sieve("T", "S")
        second.sieve("S", "T")
        self.assertEqual([first.row, second.row], ["", "b"])

    def test_no_pipeline_and_empty_ones(self):
        live = SieveRow("aab")
        for arguments in ((), ("",), ("", "", "")):
            self.assertIs(live.sieve(*arguments), None)
            self.assert_state(live, "aab", "")

    def test_index_in_all_pipelines_put_together(self):
        live = SieveRow("aabaabb")
        live.sieve("S")
        for index, arguments in (
            (0, ("x",)), (0, ("", "s")), (1, ("T", "x")), (2, ("TSx",)), (3, ("TS", "", "TtS")), (4, ("TS", "ST", " ")),
            (0, ("x", "y")), (2, ("S", "Tx", "y")), (199, ("T" * 150, "S" * 49 + "\n")), (1, ("T", "\u0422")),
        ):
            self.assert_value(InvalidPipeline, index, live.sieve, *arguments)
            self.assert_state(live, "aabaabb", "S")

    def test_goes_on_after_an_error(self):
        live = SieveRow("aabaabb")
        self.assert_value(InvalidPipeline, 2, live.sieve, "TT", "x")
        self.assert_value(NothingToUndo, 0, live.undo)
        live.sieve("T")
        self.assert_value(InvalidPipeline, 1, live.sieve, "S", "?", "T")
        self.assert_state(live, "aabaabb", "T")
        live.sieve("T")
        self.assert_state(live, "aabaabb", "TT")
        live.undo()
        self.assert_state(live, "aabaabb", "T")

    def test_wrong_pipelines_of_an_empty_row(self):
        live = SieveRow("")
        self.assert_value(InvalidPipeline, 4, live.sieve, "TSTS", "x")
        self.assert_state(live, "", "")

    def test_the_list_of_the_caller_stays_as_it_was(self):
        live, pipelines = SieveRow("aabaabb"), ["T", "TS"]
        live.sieve(*pipelines)
        self.assertEqual(pipelines, ["T", "TS"])
        pipelines.append("S")
        self.assert_state(live, "aabaabb", "TTS")


class Undo(Following):
    def test_takes_back_the_last_sieve_and_not_the_last_call(self):
        live = SieveRow("abccbaaddbba")
        live.sieve("S", "SST", "TS")
        for many in (5, 4, 3, 2, 1, 0):
            self.assertIs(live.undo(), None)
            self.assert_state(live, "abccbaaddbba", "SSSTTS"[:many])

    def test_a_call_without_sieves_is_not_taken_back(self):
        live = SieveRow("aab")
        live.sieve("T")
        live.sieve()
        live.sieve("")
        live.undo()
        self.assert_state(live, "aab", "")

    def test_a_sieve_that_changed_nothing(self):
        live = SieveRow("abc")
        live.sieve("SS")
        live.undo()
        self.assert_state(live, "abc", "S")
        live.undo()
        self.assert_value(NothingToUndo, 0, live.undo)

    def test_nothing_to_undo(self):
        for row in ("", "a", "aabaabb"):
            live = SieveRow(row)
            for _ in range(3):
                self.assert_value(NothingToUndo, 0, live.undo)
                self.assert_state(live, row, "")

    def test_after_as_many_undos_as_sieves(self):
        for row in ROWS:
            live = SieveRow(row)
            live.sieve("TS", "S")
            for _ in range(3):
                live.undo()
            self.assert_value(NothingToUndo, 0, live.undo)
            self.assert_state(live, row, "")
            live.sieve("S")
            self.assert_state(live, row, "S")

    def test_all_of_200_sieves(self):
        live = SieveRow(LONG_ROWS[2])
        live.sieve("S" * 199 + "T")
        for many in range(199, -1, -1):
            live.undo()
            self.assertEqual(live.pipeline, "S" * many)
        self.assert_state(live, LONG_ROWS[2], "")
        self.assert_value(NothingToUndo, 0, live.undo)


class History(unittest.TestCase):
    def test_two_at_the_same_time(self):
        live = SieveRow("aabaabb")
        live.sieve("TT")
        first, second = iter(live.history()), iter(live.history())
        self.assertEqual([next(first), next(first), next(second)], ["aabaabb", "aab", "aabaabb"])
        self.assertEqual(list(second), ["aab", "a"])
        self.assertEqual(list(first), ["a"])

    def test_one_inside_of_another_one(self):
        live = SieveRow("abccba")
        live.sieve("SS")
        pairs = [(one, other) for one in live.history() for other in live.history()]
        rows = ["abccba", "abba", "aa"]
        self.assertEqual(pairs, [(one, other) for one in rows for other in rows])

    def test_of_two_objects(self):
        first, second = SieveRow("aab"), SieveRow("bba")
        first.sieve("TS")
        second.sieve("ST")
        together = list(zip(first.history(), second.history()))
        self.assertEqual(together, [("aab", "bba"), ("a", "a"), ("a", "")])

    def test_what_it_yielded_stays_as_it_was(self):
        live = SieveRow("aabaabb")
        live.sieve("TT")
        early = list(islice(live.history(), 2))
        rows = list(live.history())
        live.undo()
        live.sieve("SS")
        self.assertEqual(early, ["aabaabb", "aab"])
        self.assertEqual(rows, ["aabaabb", "aab", "a"])
        self.assertEqual(list(live.history()), ["aabaabb", "aab", "b", "b"])

    def test_a_walk_that_stops_early(self):
        live = SieveRow("aabaabb")
        live.sieve("TT")
        self.assertEqual(next(iter(live.history())), "aabaabb")
        live.sieve("T")
        self.assertEqual(list(live.history()), ["aabaabb", "aab", "a", ""])

    def test_changing_a_list_of_it_changes_no_object(self):
        live = SieveRow("aab")
        live.sieve("T")
        rows = list(live.history())
        rows.clear()
        self.assertEqual([live.row, list(live.history())], ["a", ["aab", "a"]])


class WrongRows(Raising):
    def test_first_wrong_character(self):
        for wrong in "A0 {`\n_\u00e9":
            for at in (0, 1, 5, 9):
                self.assert_value(InvalidRow, at, SieveRow, "aabbccddee"[:at] + wrong + "X" * (9 - at))
        self.assert_value(InvalidRow, 199, SieveRow, "ab" * 99 + "aB")


def sieved(row, *calls):
    """An object after these calls, as in CALLS."""
    live = SieveRow(row)
    for arguments in calls:
        if arguments == "undo":
            live.undo()
        else:
            live.sieve(*arguments)
    return live


class Equality(unittest.TestCase):
    def assert_equal(self, one, other):
        for first, second in ((one, other), (other, one)):
            self.assertIs(first == second, True)
            self.assertIs(first != second, False)

    def assert_different(self, one, other):
        for first, second in ((one, other), (other, one)):
            self.assertIs(first == second, False)
            self.assertIs(first != second, True)

    def test_equal_rows_at_the_start(self):
        for row in ROWS + LONG_ROWS:
            live = SieveRow(row)
            self.assert_equal(live, live)
            self.assert_equal(live, SieveRow("".join(list(row))))

    def test_equal_pipelines_in_one_call_or_in_several(self):
        for row in ROWS:
            one = sieved(row, ("TSS",))
            for calls in ([("T", "S", "S")], [("T",), ("SS",)], [("TS",), (), ("", "S")], [(), ("TSS",)]):
                self.assert_equal(one, sieved(row, *calls))

    def test_undone_sieves(self):
        for row in ROWS:
            one = sieved(row, ("TS",))
            for calls in ([("TST",), "undo"], [("S",), "undo", ("TS",)], [("TT",), "undo", ("SS",), "undo"]):
                self.assert_equal(one, sieved(row, *calls))
            self.assert_equal(SieveRow(row), sieved(row, ("T",), "undo"))
            self.assert_different(one, sieved(row, ("TS",), "undo"))

    def test_equal_present_rows_but_other_first_rows(self):
        self.assert_different(sieved("aabb", ("T",)), sieved("aaabb", ("T",)))
        self.assert_different(sieved("aab", ("T",)), SieveRow("a"))
        self.assert_different(sieved("ab", ("T",)), sieved("", ("T",)))
        self.assert_different(SieveRow("ab"), SieveRow("ba"))
        self.assert_different(SieveRow("a"), SieveRow(""))

    def test_equal_present_rows_but_other_pipelines(self):
        self.assert_different(sieved("abc", ("S",)), SieveRow("abc"))
        self.assert_different(sieved("abc", ("S",)), sieved("abc", ("SS",)))
        self.assert_different(sieved("", ("S",)), sieved("", ("T",)))
        self.assert_different(sieved("aab", ("ST",)), sieved("aab", ("TT",)))

    def test_all_pairs(self):
        made = [(row, pipeline) for row in words("ab", 3) for pipeline in words("TS", 2)]
        objects = [(key, sieved(key[0], (key[1],))) for key in made]
        for one, first in objects:
            for other, second in objects:
                self.assertIs(first == second, one == other)
                self.assertIs(first != second, one != other)

    def test_the_comparison_follows_the_calls(self):
        one, other = SieveRow("aabaabb"), SieveRow("aabaabb")
        one.sieve("TT")
        self.assert_different(one, other)
        other.sieve("T")
        self.assert_different(one, other)
        other.sieve("T")
        self.assert_equal(one, other)
        one.undo()
        self.assert_different(one, other)

    def test_other_values(self):
        for live in (SieveRow(""), SieveRow("aab"), sieved("aab", ("T",))):
            told = (live.row, live.pipeline, (live.row, live.pipeline), list(live.history()))
            for other in told + (None, 0, False, "aab", "", ("aab", ""), (), ["aab"], object(), SieveRow):
                self.assert_different(live, other)

    def test_comparing_changes_nothing(self):
        one, other = sieved("aabaabb", ("TT",)), sieved("aabaabb", ("T",))
        self.assertFalse(one == other)
        self.assertEqual([one.pipeline, other.pipeline, one.row, other.row], ["TT", "T", "a", "aab"])


class Shortest(Following):
    def check(self, pipeline, output):
        live = SieveRow.shortest(pipeline, output)
        self.assertIs(type(live), SieveRow)
        self.assert_state(live, live.row, "")
        self.assertEqual(live.row, nth_shortest(pipeline, output, 26, 0))
        expected = output
        for kind in pipeline[::-1]:
            expected = widened(expected, kind, "ab")
        self.assertEqual(live.row, expected, (pipeline, output))
        self.assertEqual(plain_size(live.row), grown(pipeline, plain_size(output)))
        live.sieve(pipeline)
        self.assertEqual(live.row, output)
        self.assertEqual(len(list(live.history())), len(pipeline) + 1)
        return expected

    def test_short_pipelines(self):
        for pipeline in words("TS", 4):
            for output in ("", "a", "b", "z", "aa", "bb", "zz", "aab", "bba", "aaa", "bbb", "zyyx", "aabbccddeeff"):
                self.check(pipeline, output)

    def test_first_one_of_all(self):
        for pipeline in words("TS", 3):
            for output in words("abc", 3):
                if 2 ** free_letters(pipeline, output) <= 64:
                    rows = all_shortest(pipeline, output, "abc")
                    self.assertEqual(SieveRow.shortest(pipeline, output).row, rows[0])

    def test_before_the_second_one(self):
        for pipeline, output in (("T", "aa"), ("S", "zz"), ("TS", "aab"), ("SSS", "bb"), ("TTT", "b")):
            self.assertGreater(count_shortest(pipeline, output, 26), 1)
            first = self.check(pipeline, output)
            self.assertLess(first, nth_shortest(pipeline, output, 26, 1))

    def test_rows_of_up_to_300_letters(self):
        for pipeline, output in (
            ("S" * 149, "aa"), ("S" * 12, "z" * 12), ("TTTTT", "aa"), ("SSSSTSSSSTSS", "a"), ("T" * 12, ""),
            ("S" * 12, "abcdefghijkl"), ("STTSSSSSSSSS", "abba"), ("TSTSTSS", "aa"),
        ):
            self.assertLessEqual(len(self.check(pipeline, output)), 300)

    def test_errors_in_their_order(self):
        self.assert_value(InvalidPipeline, 1, SieveRow.shortest, "Tx", "aA")
        self.assert_value(InvalidPipeline, 0, SieveRow.shortest, "t", "")
        self.assert_value(InvalidPipeline, 3, SieveRow.shortest, "TST ", "a")
        self.assert_value(InvalidRow, 1, SieveRow.shortest, "TS", "aA")
        self.assert_value(InvalidRow, 0, SieveRow.shortest, "", "\u00e9")

    def test_called_on_an_object(self):
        live = sieved("aab", ("T",))
        other = live.shortest("T", "aa")
        self.assertEqual(other.row, "aabaa")
        self.assert_value(InvalidPipeline, 0, live.shortest, "x", "aa")
        self.assert_state(live, "aab", "T")

    def test_a_new_object_for_each_call(self):
        one, other = SieveRow.shortest("T", "aa"), SieveRow.shortest("T", "aa")
        self.assertTrue(one == other)
        one.sieve("T")
        self.assert_state(other, "aabaa", "")


class Calls(Following):
    def test_by_name(self):
        self.assertEqual(SieveRow(row="aab").row, "aab")
        self.assertEqual(SieveRow.shortest(pipeline="T", output="aa").row, "aabaa")
        self.assertEqual(SieveRow.shortest(output="aa", pipeline="S").row, "abba")

    def test_each_name_stands_in_the_class_itself(self):
        for name in ("sieve", "undo", "history", "shortest", "__init__", "__eq__"):
            self.assertIn(name, vars(SieveRow))
        for name in ("row", "pipeline", "is_empty"):
            self.assertIsInstance(vars(SieveRow)[name], property)
            with self.assertRaises(AttributeError):
                setattr(SieveRow("a"), name, "b")

    def test_arguments(self):
        def kinds_of(method):
            return [(each.name, each.kind) for each in inspect.signature(method).parameters.values()]

        named = inspect.Parameter.POSITIONAL_OR_KEYWORD
        self.assertEqual(kinds_of(SieveRow("").sieve), [("pipelines", inspect.Parameter.VAR_POSITIONAL)])
        self.assertEqual(kinds_of(SieveRow("").undo), [])
        self.assertEqual(kinds_of(SieveRow("").history), [])
        self.assertEqual(kinds_of(SieveRow.shortest), [("pipeline", named), ("output", named)])

    def test_objects_do_not_share_anything(self):
        one, other = SieveRow("aab"), SieveRow("aab")
        one.sieve("T")
        self.assert_state(other, "aab", "")
        other.sieve("S")
        self.assert_state(one, "aab", "T")


class PassedOn(Following):
    """[2]: a returned value may be passed on whatever its size."""

    def test_long_pipelines(self):
        pipeline = pipeline_of((20000, 1), "aa")
        live = SieveRow("abcab")
        live.sieve(pipeline, "T")
        self.assertEqual([live.row, live.pipeline, live.is_empty], ["", pipeline + "T", True])
        live.undo()
        live.undo()
        self.assertEqual([live.row, live.pipeline], ["abcab", pipeline[1:]])
        self.assertEqual(len(list(live.history())), len(pipeline))
        self.assertTrue(live == sieved("abcab", (live.pipeline,)))
        self.assert_value(InvalidPipeline, len(pipeline) + 1, live.sieve, pipeline, "Tx")

    def test_read_pipelines(self):
        pipeline = read_pipeline("S100 T2 S100 T100 S")
        for row in LONG_ROWS:
            self.assert_state(sieved(row, (pipeline,)), row, pipeline)
        live = SieveRow.shortest(pipeline, "")
        self.assert_state(live, "", "")
        self.assertEqual(SieveRow.shortest(read_pipeline("S100"), "zz").row, "z" + "ab" * 50 + "ba" * 50 + "z")

    def test_long_rows(self):
        row = nth_shortest("S" * 149, "aa", 26, 10 ** 30 - 1)
        live = SieveRow(row)
        live.sieve("S" * 149)
        self.assert_state(live, row, "S" * 149)
        self.assertEqual(live.row, "aa")
        # What an object tells may be passed on to another one.
        other = SieveRow(next(iter(live.history())))
        other.sieve(live.pipeline)
        self.assertTrue(live == other)


if __name__ == "__main__":
    unittest.main()

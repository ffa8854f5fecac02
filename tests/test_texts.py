"""Promises [2], [3] and [5]: the texts of pipelines, and the pipelines read from them."""

import unittest
from itertools import product

from raising import Raising
from reference import apply, grown, plain_reading, plain_text, words

from twinsieve.errors import Unreadable
from twinsieve.listing import pipelines
from twinsieve.readings import read_pipeline
from twinsieve.sieves import sieve
from twinsieve.sizes import least_size, pipeline_of, repeated_size
from twinsieve.texts import show_pipeline

SHORT = words("TS", 6)
LONG = (
    "T" * 9, "S" * 10, "T" * 11, "S" * 12, "TS" * 6, "T" * 99 + "S" * 100, "S" * 100 + "T" + "S" * 20 + "T" * 21,
    "ST" * 50, ("T" * 100 + "S" * 100) * 2, "TTSSS" * 40, "S" + "T" * 19 + "S" * 90 + "T" * 10,
)
SIGNS = "".join(chr(code) for code in range(32, 127))
# Wrong digits, blanks and letters beyond the signs that callers pass.
STRANGE = ("T\u00b2", "T\u0662", "T\uff12", "T\u00a0S", "T\tS", "T\nS", "T\n", "T2\n", "\u0422", "T2\u0663", "none\n")


def texts_up_to(signs, longest):
    return ["".join(text) for length in range(longest + 1) for text in product(signs, repeat=length)]


class ShowPipeline(unittest.TestCase):
    def test_example(self):
        self.assertEqual(show_pipeline("TTTSTT"), "T3 S T2")

    def test_the_empty_pipeline(self):
        self.assertEqual(show_pipeline(""), "none")

    def test_one_run(self):
        for kind in "TS":
            self.assertEqual(show_pipeline(kind), kind)
            for many in (2, 9, 10, 11, 99, 100, 101, 1000):
                self.assertEqual(show_pipeline(kind * many), f"{kind}{many}")

    def test_single_sieves(self):
        self.assertEqual(show_pipeline("TSTS"), "T S T S")
        self.assertEqual(show_pipeline("ST" * 100), " ".join(["S T"] * 100))

    def test_all_short_pipelines_and_long_ones(self):
        for pipeline in SHORT + list(LONG):
            self.assertEqual(show_pipeline(pipeline), plain_text(pipeline))

    def test_different_pipelines_have_different_texts(self):
        made = set(SHORT + list(LONG) + list(pipelines(300)))
        self.assertEqual(len({show_pipeline(pipeline) for pipeline in made}), len(made))

    def test_by_name(self):
        self.assertEqual(show_pipeline(pipeline="TT"), "T2")

    def test_a_second_call_answers_the_same(self):
        for _ in range(2):
            self.assertEqual(show_pipeline("SST"), "S2 T")
            self.assertEqual(show_pipeline(""), "none")


class ReadPipeline(Raising):
    def assert_reading(self, text, pipeline):
        """The text is that of the pipeline, or of none if this is None."""
        if pipeline is None:
            self.assert_value(Unreadable, text, read_pipeline, text)
        else:
            self.assertEqual(read_pipeline(text), pipeline, text)

    def assert_unreadable(self, *texts):
        for text in texts:
            self.assert_value(Unreadable, text, read_pipeline, text)

    def test_example(self):
        self.assert_unreadable("T1 S")

    def test_each_text_is_read_back(self):
        for pipeline in SHORT + list(LONG) + list(pipelines(100)):
            self.assertEqual(read_pipeline(plain_text(pipeline)), pipeline)
            self.assertEqual(read_pipeline(show_pipeline(pipeline)), pipeline)

    def test_every_number(self):
        for many in range(1, 131):
            for pipeline in ("T" * many, "S" * many, "T" * many + "S", "S" + "T" * many, "S" * many + "T" * many):
                self.assertEqual(read_pipeline(plain_text(pipeline)), pipeline)

    def test_all_short_texts(self):
        # A text of at most four characters shows one run of at most 999 sieves, or two of less than ten.
        made = [kind * many for kind in "TS" for many in range(1000)]
        for first, second in product(range(10), repeat=2):
            made += ["T" * first + "S" * second, "S" * first + "T" * second]
        shown = {plain_text(pipeline): pipeline for pipeline in made}
        for text in texts_up_to("TS 0129n", 4):
            self.assert_reading(text, shown.get(text))

    def test_texts_of_few_signs(self):
        for signs, longest in (("TS 2", 7), ("T 10", 6), ("noe N", 5), ("S12 ", 5), (SIGNS, 2)):
            for text in texts_up_to(signs, longest):
                if not any(part[1:].isdigit() and int(part[1:]) > 200 for part in text.split(" ")):
                    self.assert_reading(text, plain_reading(text))

    def test_texts_that_differ_in_one_sign(self):
        for text in ("T3 S T2", "none", "S100", "T S", "S2 T10 S", "T20"):
            for at in range(len(text) + 1):
                changed = [text[:at] + text[at + 1:]]
                changed += [text[:at] + sign + text[at:] for sign in SIGNS]
                changed += [text[:at] + sign + text[at + 1:] for sign in SIGNS]
                for other in changed:
                    self.assert_reading(other, plain_reading(other))

    def test_numbers_zero_and_one_and_leading_zeros(self):
        self.assert_unreadable("T0", "T1", "S0", "S1", "T00", "T01", "T02", "S010", "T0100", "T S1", "T S0", "T2 S02")
        self.assert_unreadable("T" + "0" * 3999, "T" + "0" * 3998 + "2", "S" + "0" * 20 + "9")

    def test_numbers_with_other_signs(self):
        self.assert_unreadable("T-2", "T+2", "T2.0", "T2_0", "T 2", "T2 2", "T1e1", "T0x2", "T2,", "T2T", "2T", "T2S")

    def test_letters(self):
        self.assert_unreadable("t", "s", "t2", "T s", "X", "a", "T X", "T2 x2", "U", "R3", "Tt", "TS", "TT", "SS", "tS")

    def test_the_same_sieve_in_two_neighbouring_parts(self):
        self.assert_unreadable("T T", "S S", "T2 T", "T T2", "S3 S4", "T S S", "S T2 T3 S", "T S T S S")

    def test_spaces(self):
        self.assert_unreadable("T  S", " T", "T ", " T S", "T S ", "T S  T", " ", "  ", " none", "none ", "T2  S")

    def test_the_empty_text_and_none(self):
        self.assert_unreadable("", "None", "NONE", "non", "nonee", "n", "none2", "T2none")
        self.assert_unreadable("none none", "none T", "T none", "none none T", "nonenone")
        self.assertEqual(read_pipeline("none"), "")

    def test_other_characters(self):
        self.assert_unreadable(*SIGNS.replace("T", "").replace("S", ""))
        self.assert_unreadable(*[f"T2{sign}S" for sign in SIGNS if sign != " " and not sign.isdigit()])
        self.assert_unreadable(*STRANGE)

    def test_texts_of_4000_characters(self):
        self.assert_reading("T S " * 999 + "T S2", "TS" * 1000 + "S")
        self.assert_reading("S T2 " * 799 + "S T20", "STT" * 800 + "T" * 18)
        self.assert_reading("T100 S100 " * 399 + "T100 S10", ("T" * 100 + "S" * 100) * 399 + "T" * 100 + "S" * 10)
        for text in (
            "T S " * 1000, "T S " * 999 + "T T2", "T S " * 999 + "T S1", "T S " * 999 + "T Sx",
            "x" + " S T" * 999 + " S2", "T2 " * 1333 + "S", "T0" * 2000, "none" * 1000,
            " " * 4000, "T" * 4000, "0" * 4000, "9" * 4000, "~" * 4000,
        ):
            self.assertEqual(len(text), 4000)
            self.assert_unreadable(text)

    def test_large_numbers_in_a_wrong_text(self):
        self.assert_unreadable("T" + "9" * 1000 + " T", "T" + "9" * 1000 + " S1", "S" + "9" * 30 + " T ")

    def test_by_name(self):
        self.assertEqual(read_pipeline(text="T2 S"), "TTS")

    def test_a_second_call_answers_the_same(self):
        for _ in range(2):
            self.assertEqual(read_pipeline("S2 T"), "SST")
            self.assert_unreadable("T1")


class PassedOn(unittest.TestCase):
    """[2]: a returned value may be passed on whatever its size."""

    def test_read_pipelines_of_some_hundred_sieves(self):
        rows = ("abba" * 50, "ab" * 50 + "ba" * 50, "aabaabb" * 28 + "cdda", "")
        for text in (
            "S100", "S100 T100 S100 T100", "T100 S T S100 T2 S100", "T S T2 S3 " * 40 + "T100 S2", "T S " * 999 + "T",
        ):
            pipeline = read_pipeline(text)
            self.assertEqual(show_pipeline(pipeline), text)
            for row in rows:
                self.assertEqual(sieve(row, pipeline), apply(row, pipeline))
            for output, row_size in (("aa", (2, 1)), ("abbc", (4, 1)), ("a", (1, 0)), ("", (0, 0))):
                self.assertEqual(least_size(pipeline, output), grown(pipeline, row_size))
                self.assertEqual(repeated_size(pipeline, 3, output), grown(pipeline * 3, row_size))
            self.assertEqual(pipeline_of(least_size(pipeline, "aa"), "aa"), pipeline)

    def test_texts_of_long_pipelines(self):
        pipeline = pipeline_of((100000, 1), "aa")
        self.assertEqual(show_pipeline(pipeline), "S49999")
        self.assertEqual(read_pipeline(show_pipeline(pipeline)), pipeline)
        self.assertEqual(read_pipeline(show_pipeline("T" + pipeline + "T")), "T" + pipeline + "T")
        pipeline = pipeline_of(repeated_size("TSSTTS", 200, "aa"), "aa")
        self.assertEqual(read_pipeline(show_pipeline(pipeline)), "TSSTTS" * 200)

    def test_texts_of_more_than_4000_characters(self):
        self.assertEqual(read_pipeline(show_pipeline("TS" * 5000)), "TS" * 5000)


if __name__ == "__main__":
    unittest.main()

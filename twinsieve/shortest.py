"""The shortest rows that a pipeline leads to an output: how many there are, and their numbers.

All of them have one shape: a list of marks, one for each letter of a row. Equal marks are equal letters. A mark
is a letter of the output, or an integer for a free letter. A free letter stands between two equal letters to keep
them apart, so only their letter is barred for it: that of the mark that the dict of the shape has for it.
"""

from twinsieve.checks import check_kinds, check_pipeline, check_row
from twinsieve.errors import InvalidNumber
from twinsieve.sieves import runs_of, sieve
from twinsieve.sizes import least_size

LETTERS = "abcdefghijklmnopqrstuvwxyz"


def add_free(barred, mark):
    """Add a free letter for which the letter of a mark is barred, and return its own mark."""
    free = len(barred)
    barred[free] = mark
    return free


def shape_before_t(shape, barred):
    """Return the shape in front of a sieve T, and add its new free letters to barred."""
    wider = []
    for at, mark in enumerate(shape):
        if at > 0 and shape[at - 1] == mark:
            wider.append(add_free(barred, mark))
        wider.extend([mark, mark])
    return wider


def shape_before_s(shape, count, barred):
    """Return the shape in front of so many sieves S, and add its new free letters to barred."""
    wider = []
    for at, mark in enumerate(shape):
        if at > 0 and shape[at - 1] == mark:
            # Each sieve needs a new pair in the midst of the pair behind it.
            half = []
            inner = mark
            for _ in range(count):
                inner = add_free(barred, inner)
                half.append(inner)
            wider.extend(half + half[::-1])
        wider.append(mark)
    return wider


def shape_of(pipeline, output):
    """Return the shape of the shortest rows, and the dict of its free letters."""
    shape = list(output)
    barred = {}
    # Sieves S are taken a run at a time: there can be thousands that change nothing.
    for kind, count in reversed(runs_of(pipeline)):
        if kind == "S":
            shape = shape_before_s(shape, count, barred)
        else:
            for _ in range(count):
                shape = shape_before_t(shape, barred)
    return (shape, barred)


def count_free(barred, kinds):
    """Return in how many ways the free letters can be chosen."""
    count = 1
    for _ in barred:
        count = count * (kinds - 1)
    return count


def letter_at(digit, barred_letter):
    """Return the letter with this index among all letters but one."""
    if LETTERS[digit] < barred_letter:
        return LETTERS[digit]
    return LETTERS[digit + 1]


def index_of(letter, barred_letter):
    """Return the index of a letter among all letters but one."""
    if letter < barred_letter:
        return LETTERS.index(letter)
    return LETTERS.index(letter) - 1


def digits_of(number, base, count):
    """Return so many digits of a number, the lowest one first."""
    digits = []
    for _ in range(count):
        number, digit = divmod(number, base)
        digits.append(digit)
    return digits


def count_shortest(pipeline, output, kinds):
    """Return how many shortest rows the pipeline leads to the output."""
    check_pipeline(pipeline)
    check_row(output)
    check_kinds(kinds, output)
    barred = shape_of(pipeline, output)[1]
    return count_free(barred, kinds)


def nth_shortest(pipeline, output, kinds, number):
    """Return the shortest row with a number, from 0 in string order."""
    check_pipeline(pipeline)
    check_row(output)
    check_kinds(kinds, output)
    shape, barred = shape_of(pipeline, output)
    if number < 0 or number >= count_free(barred, kinds):
        raise InvalidNumber(number)
    digits = digits_of(number, kinds - 1, len(barred))
    letters = {letter: letter for letter in output}
    for mark in shape:
        # A free letter first appears behind the letter that is barred for it, so
        # the digits in the order of their places number the rows in string order.
        if mark not in letters:
            letters[mark] = letter_at(digits.pop(), letters[barred[mark]])
    return "".join([letters[mark] for mark in shape])


def shortest_number(pipeline, row, kinds):
    """Return the number of a row among the shortest rows for its output, or None if it is not one of them."""
    check_pipeline(pipeline)
    check_row(row)
    check_kinds(kinds, row)
    output = sieve(row, pipeline)
    if len(row) > least_size(pipeline, output)[0]:
        return None
    shape, barred = shape_of(pipeline, output)
    number = 0
    letters = {}
    for mark, letter in zip(shape, row):
        if mark in barred and mark not in letters:
            number = number * (kinds - 1) + index_of(letter, letters[barred[mark]])
        letters[mark] = letter
    return number

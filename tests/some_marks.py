"""Lists of marks."""

from fractions import Fraction

from exact import pair
from things import HUGE


def a_mark(time, label):
    return (pair(time), label)


NONE = []
ONE = [a_mark(2, "two")]
# By Python's own order of tuples, 1/3 stands behind 1/2, and 2/3 behind 1.
ACROSS = [a_mark("2/3", "c"), a_mark("1/2", "b"), a_mark("1/3", "a"), a_mark(1, "d")]
SAME = [a_mark(3, "y"), a_mark(1, "one"), a_mark(3, "x"), a_mark(3, "y"), a_mark(5, "five")]
BELOW = [a_mark(-1, "z"), a_mark("-5/2", ""), a_mark(0, "null"), a_mark("-5/2", "a"), a_mark("1/7", "z")]
FAR = [a_mark(HUGE, "far"), a_mark(-HUGE, "near"), a_mark(Fraction(1, HUGE), "tiny")]
SOME_MARKS = [NONE, ONE, ACROSS, SAME, BELOW, FAR]

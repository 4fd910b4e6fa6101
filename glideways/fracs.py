"""Fractions: tuples (up, down) of whole numbers in lowest terms, down above 0."""

from glideways.errors import NoFrac

ZERO = (0, 1)
ONE = (1, 1)


def is_whole(thing):
    # Truths are ints to Python, but no whole numbers here.
    return isinstance(thing, int) and not isinstance(thing, bool)


def common_divisor(one, other):
    found = abs(one)
    rest = abs(other)
    while rest != 0:
        left = found % rest
        found = rest
        rest = left
    return found


def is_frac(thing):
    if not isinstance(thing, tuple) or len(thing) != 2:
        return False
    up = thing[0]
    down = thing[1]
    if not is_whole(up) or not is_whole(down):
        return False
    # The greatest divisor of 0 and down is down, so this lets 0 pass over 1 alone.
    return down > 0 and common_divisor(up, down) == 1


def is_size(thing):
    return is_frac(thing) and thing[0] > 0


def frac(up, down):
    if down == 0:
        raise NoFrac("the divisor is 0")
    divisor = common_divisor(up, down)
    if down < 0:
        # Dividing by a number below 0 brings the sign from below to above.
        divisor = -divisor
    return (up // divisor, down // divisor)


def whole(number):
    return (number, 1)


def plus(one, other):
    return frac(one[0] * other[1] + other[0] * one[1], one[1] * other[1])


def minus(one, other):
    return frac(one[0] * other[1] - other[0] * one[1], one[1] * other[1])


def times(one, other):
    return frac(one[0] * other[0], one[1] * other[1])


def over(one, other):
    return frac(one[0] * other[1], one[1] * other[0])


def all_plus(some):
    together = ZERO
    for one in some:
        together = plus(together, one)
    return together


def is_less(one, other):
    return one[0] * other[1] < other[0] * one[1]


def least_frac(some):
    least = some[0]
    for one in some:
        if is_less(one, least):
            least = one
    return least


def most_frac(some):
    most = some[0]
    for one in some:
        if is_less(most, one):
            most = one
    return most


def rounded(one):
    # Half more, then down to a whole number: so a half goes to the greater one, below 0 too.
    return (2 * one[0] + one[1]) // (2 * one[1])


def between(one, other, part):
    return plus(one, times(part, minus(other, one)))

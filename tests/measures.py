"""What kinds, motions and plans come to, reckoned with Python's own Fraction, as the tests ask it of the program."""

from fractions import Fraction

from exact import told

KINDS = ["even", "in", "out", "both", "hold", "jump"]
TURNED = {"even": "even", "in": "out", "out": "in", "both": "both", "hold": "jump", "jump": "hold"}
EASED = {
    "even": lambda p: p,
    "in": lambda p: p * p,
    "out": lambda p: 2 * p - p * p,
    "both": lambda p: p * p * (3 - 2 * p),
    "hold": lambda p: Fraction(1 if p == 1 else 0),
    "jump": lambda p: Fraction(0 if p == 0 else 1),
}
SLOPES = {
    "even": lambda p: Fraction(1),
    "in": lambda p: 2 * p,
    "out": lambda p: 2 - 2 * p,
    "both": lambda p: 6 * (p - p * p),
    "hold": lambda p: Fraction(0),
    "jump": lambda p: Fraction(0),
}


def asked_worth(motion, time):
    start, goal, begin, long = [told(one) for one in motion[:4]]
    first, last = [told(one) for one in motion[5]]
    p = min(max((time - begin) / long, Fraction(0)), Fraction(1))
    if motion[4] != "kept":
        return start + (goal - start) * EASED[motion[4]](p)
    by_speeds = long * first * (p ** 3 - 2 * p ** 2 + p) + long * last * (p ** 3 - p ** 2)
    return start + (goal - start) * EASED["both"](p) + by_speeds


def asked_speed(motion, time):
    start, goal, begin, long = [told(one) for one in motion[:4]]
    first, last = [told(one) for one in motion[5]]
    p = (time - begin) / long
    if p < 0 or p > 1:
        return Fraction(0)
    if motion[4] != "kept":
        return (goal - start) / long * SLOPES[motion[4]](p)
    by_speeds = first * (3 * p ** 2 - 4 * p + 1) + last * (3 * p ** 2 - 2 * p)
    return (goal - start) / long * SLOPES["both"](p) + by_speeds


def times_about(motion):
    """Ahead of the motion, at its beginning, in it, at its end and behind it."""
    begin, long = told(motion[2]), told(motion[3])
    parts = ["-7", "-1/3", "-1/1000000007", "0", "1/1000000007", "1/12", "1/4", "1/3", "1/2", "2/3", "3/4"]
    parts += ["1000000006/1000000007", "1", "1000000008/1000000007", "5/4", "9"]
    return [begin + Fraction(part) * long for part in parts]

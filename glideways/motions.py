"""Motions: tuples (start, goal, begin, long, kind, speeds), from one worth to another in some time."""

from glideways.fracs import (
    ONE, ZERO, between, is_frac, is_less, is_size, least_frac, minus, most_frac, over, plus, times, whole,
)
from glideways.kinds import eased, is_kind, kept_within, slope, turned_kind

START = 0
GOAL = 1
BEGIN = 2
LONG = 3
KIND = 4
SPEEDS = 5
KEPT = "kept"
NO_SPEEDS = ((0, 1), (0, 1))


def are_speeds(thing):
    return isinstance(thing, tuple) and len(thing) == 2 and is_frac(thing[0]) and is_frac(thing[1])


def go_together(kind, speeds):
    return kind == KEPT or (is_kind(kind) and speeds == NO_SPEEDS)


def is_motion(thing):
    if not isinstance(thing, tuple) or len(thing) != 6:
        return False
    if not is_frac(thing[START]) or not is_frac(thing[GOAL]) or not is_frac(thing[BEGIN]):
        return False
    # The speeds' own form comes first: truths in them would be like 0 and 1 to Python.
    return is_size(thing[LONG]) and are_speeds(thing[SPEEDS]) and go_together(thing[KIND], thing[SPEEDS])


def plain_motion(start, goal, begin, long, kind):
    return (start, goal, begin, long, kind, NO_SPEEDS)


def end_of(motion):
    return plus(motion[BEGIN], motion[LONG])


def part_at(motion, time):
    return over(minus(time, motion[BEGIN]), motion[LONG])


def ends_between(motion):
    ends = [motion[START], motion[GOAL]]
    return (least_frac(ends), most_frac(ends))


def worth_at(motion, time):
    part = part_at(motion, time)
    if motion[KIND] == KEPT:
        return kept_worth(motion, kept_within(part))
    return between(motion[START], motion[GOAL], eased(motion[KIND], part))


def kept_worth(motion, p):
    square = times(p, p)
    cube = times(square, p)
    by_first = times(motion[SPEEDS][0], plus(minus(cube, times(whole(2), square)), p))
    by_last = times(motion[SPEEDS][1], minus(cube, square))
    by_speeds = times(motion[LONG], plus(by_first, by_last))
    return plus(between(motion[START], motion[GOAL], eased("both", p)), by_speeds)


def speed_at(motion, time):
    part = part_at(motion, time)
    if motion[KIND] != KEPT:
        return times(mean_speed(motion), slope(motion[KIND], part))
    if is_less(part, ZERO) or is_less(ONE, part):
        return ZERO
    return kept_speed(motion, part)


def mean_speed(motion):
    return over(minus(motion[GOAL], motion[START]), motion[LONG])


def kept_speed(motion, p):
    three_squares = times(whole(3), times(p, p))
    by_first = times(motion[SPEEDS][0], plus(minus(three_squares, times(whole(4), p)), ONE))
    by_last = times(motion[SPEEDS][1], minus(three_squares, times(whole(2), p)))
    by_speeds = plus(by_first, by_last)
    return plus(times(mean_speed(motion), slope("both", p)), by_speeds)


def turned(motion):
    kind = motion[KIND] if motion[KIND] == KEPT else turned_kind(motion[KIND])
    speeds = (minus(ZERO, motion[SPEEDS][1]), minus(ZERO, motion[SPEEDS][0]))
    return (motion[GOAL], motion[START], motion[BEGIN], motion[LONG], kind, speeds)


def begun_at(motion, begin):
    return (motion[START], motion[GOAL], begin, motion[LONG], motion[KIND], motion[SPEEDS])


def moved(motion, by):
    return begun_at(motion, plus(motion[BEGIN], by))


def slowed(motion, by):
    begin = times(motion[BEGIN], by)
    long = times(motion[LONG], by)
    speeds = (over(motion[SPEEDS][0], by), over(motion[SPEEDS][1], by))
    return (motion[START], motion[GOAL], begin, long, motion[KIND], speeds)


def even_time(motion, worth):
    if motion[KIND] != "even" or motion[START] == motion[GOAL]:
        return None
    part = over(minus(worth, motion[START]), minus(motion[GOAL], motion[START]))
    if is_less(part, ZERO) or is_less(ONE, part):
        return None
    return plus(motion[BEGIN], times(part, motion[LONG]))

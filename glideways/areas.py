"""Areas: what the worths of motions and tracks come to over time, and how far and how long tracks go."""

from glideways.fracs import all_plus, frac, is_less, least_frac, minus, most_frac, over, plus, times
from glideways.motions import BEGIN, GOAL, KIND, LONG, SPEEDS, START, end_of, ends_between
from glideways.tracks import FIRST, MOTIONS, need_track, worth_of

SHARES = {"even": (1, 2), "both": (1, 2), "kept": (1, 2), "in": (1, 3), "out": (2, 3), "hold": (0, 1), "jump": (1, 1)}


def area(motion):
    long = motion[LONG]
    by_start = times(long, motion[START])
    by_way = times(times(long, minus(motion[GOAL], motion[START])), SHARES[motion[KIND]])
    return plus(plus(by_start, by_way), speeds_area(motion))


def speeds_area(motion):
    # Only kept has speeds, so of all other kinds this is 0.
    long = motion[LONG]
    more = minus(motion[SPEEDS][0], motion[SPEEDS][1])
    return times(times(frac(1, 12), times(long, long)), more)


def mean(motion):
    return over(area(motion), motion[LONG])


def track_area(track):
    need_track(track)
    moving = all_plus([area(motion) for motion in track[MOTIONS]])
    resting = all_plus([rest_area(track, rest) for rest in rests(track)])
    return plus(moving, resting)


def rest_area(track, rest):
    return times(minus(rest[1], rest[0]), worth_of(track, rest[0]))


def rests(track):
    need_track(track)
    motions = track[MOTIONS]
    found = []
    for number in range(1, len(motions)):
        end = end_of(motions[number - 1])
        begin = motions[number][BEGIN]
        if is_less(end, begin):
            found.append((end, begin))
    return found


def busy(track):
    need_track(track)
    return all_plus([motion[LONG] for motion in track[MOTIONS]])


def travel(track):
    need_track(track)
    return all_plus([way_of(motion) for motion in track[MOTIONS]])


def way_of(motion):
    ends = ends_between(motion)
    return minus(ends[1], ends[0])


def reach(track):
    need_track(track)
    motions = track[MOTIONS]
    worths = [track[FIRST]] + [motion[START] for motion in motions] + [motion[GOAL] for motion in motions]
    return (least_frac(worths), most_frac(worths))

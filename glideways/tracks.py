"""Tracks: tuples (first, motions), a worth and motions one behind the other."""

from glideways.errors import NoTime, NoTrack
from glideways.fracs import ZERO, is_frac, is_less, is_size
from glideways.kinds import need_kind
from glideways.motions import (
    BEGIN, GOAL, KIND, START, end_of, is_motion, moved, plain_motion, slowed, speed_at, worth_at,
)

FIRST = 0
MOTIONS = 1


def is_track(thing):
    if not isinstance(thing, tuple) or len(thing) != 2:
        return False
    if not is_frac(thing[FIRST]) or not isinstance(thing[MOTIONS], tuple):
        return False
    return all([is_motion(one) for one in thing[MOTIONS]]) and none_overlap(thing[MOTIONS])


def none_overlap(motions):
    for number in range(1, len(motions)):
        if is_less(motions[number][BEGIN], end_of(motions[number - 1])):
            return False
    return True


def end_time(track):
    if len(track[MOTIONS]) == 0:
        return None
    return end_of(track[MOTIONS][-1])


def last_worth(track):
    if len(track[MOTIONS]) == 0:
        return track[FIRST]
    return track[MOTIONS][-1][GOAL]


def begun_ahead(track, time):
    return [motion for motion in track[MOTIONS] if is_less(motion[BEGIN], time)]


def begun_by(track, time):
    return [motion for motion in track[MOTIONS] if not is_less(time, motion[BEGIN])]


def worth_of(track, time):
    begun = begun_by(track, time)
    if len(begun) == 0:
        return track[FIRST]
    return worth_at(begun[-1], time)


def worth_ahead(track, time):
    begun = begun_ahead(track, time)
    if len(begun) == 0:
        return track[FIRST]
    motion = begun[-1]
    # Hold leaps at its very end, so right ahead of it the worth is still the start.
    if motion[KIND] == "hold" and end_of(motion) == time:
        return motion[START]
    return worth_at(motion, time)


def worth_behind(track, time):
    begun = begun_by(track, time)
    if len(begun) == 0:
        return track[FIRST]
    motion = begun[-1]
    # Jump leaps away from its very beginning, so right behind it the worth is the goal already.
    if motion[KIND] == "jump":
        return motion[GOAL]
    return worth_at(motion, time)


def edges(track):
    found = []
    for motion in track[MOTIONS]:
        # Where two motions touch, the end of the one is the beginning of the other.
        if len(found) == 0 or found[-1] != motion[BEGIN]:
            found.append(motion[BEGIN])
        found.append(end_of(motion))
    return found


def leaps_at(track, time):
    worth = worth_of(track, time)
    return worth_ahead(track, time) != worth or worth_behind(track, time) != worth


def leaps(track):
    return [time for time in edges(track) if leaps_at(track, time)]


def motion_on(track, time):
    begun = begun_by(track, time)
    if len(begun) == 0 or not is_less(time, end_of(begun[-1])):
        return None
    return begun[-1]


def speed_of(track, time):
    motion = motion_on(track, time)
    return ZERO if motion is None else speed_at(motion, time)


def need_track(track):
    if not is_track(track):
        raise NoTrack("no track")


def need_size(long):
    if not is_size(long):
        raise NoTime("a time that is not above 0")


def with_motion(track, goal, begin, long, kind):
    need_track(track)
    need_kind(kind)
    need_size(long)
    end = end_time(track)
    if end is not None and is_less(begin, end):
        raise NoTime("a beginning ahead of the track's end")
    motion = plain_motion(last_worth(track), goal, begin, long, kind)
    return (track[FIRST], track[MOTIONS] + (motion,))


def track_moved(track, by):
    return (track[FIRST], tuple([moved(motion, by) for motion in track[MOTIONS]]))


def track_slowed(track, by):
    need_size(by)
    return (track[FIRST], tuple([slowed(motion, by) for motion in track[MOTIONS]]))

"""Runs: tuples of pieces (time, track); each piece counts from its time on, until the next one does."""

from glideways.errors import NoTime
from glideways.fracs import ZERO, is_frac, is_less, minus, plus
from glideways.kinds import need_kind
from glideways.motions import KEPT, START, begun_at, end_of, plain_motion, turned
from glideways.tracks import begun_ahead, end_time, is_track, last_worth, need_size, speed_of, worth_of

TIME = 0
TRACK = 1


def is_piece(thing):
    return isinstance(thing, tuple) and len(thing) == 2 and is_track(thing[TRACK])


def are_rising(some):
    if not all([is_frac(one) for one in some]):
        return False
    for number in range(1, len(some)):
        if not is_less(some[number - 1], some[number]):
            return False
    return True


def is_run(thing):
    if not isinstance(thing, tuple) or len(thing) == 0:
        return False
    if not all([is_piece(one) for one in thing]):
        return False
    return thing[0][TIME] is None and are_rising([piece[TIME] for piece in thing[1:]])


def begun(track):
    return ((None, track),)


def track_on(run, time):
    counts = run[0]
    for piece in run[1:]:
        if not is_less(time, piece[TIME]):
            counts = piece
    return counts[TRACK]


def worth_on(run, time):
    return worth_of(track_on(run, time), time)


def speed_on(run, time):
    return speed_of(track_on(run, time), time)


def goes_till(run):
    end = end_time(run[-1][TRACK])
    return run[-1][TIME] if end is None else end


def comes_to(run):
    return last_worth(run[-1][TRACK])


def need_later(run, time):
    last = run[-1][TIME]
    if last is not None and not is_less(last, time):
        raise NoTime("not behind the time of the last piece")


def with_piece(run, time, first, motions):
    return run + ((time, (first, tuple(motions))),)


def broken(run, time, goal, long, kind):
    need_later(run, time)
    need_kind(kind)
    need_size(long)
    here = worth_on(run, time)
    return with_piece(run, time, here, [plain_motion(here, goal, time, long, kind)])


def held(run, time):
    need_later(run, time)
    return with_piece(run, time, worth_on(run, time), [])


def kept_going(run, time, goal, long):
    need_later(run, time)
    need_size(long)
    here = worth_on(run, time)
    speeds = (speed_on(run, time), ZERO)
    return with_piece(run, time, here, [(here, goal, time, long, KEPT, speeds)])


def turned_at(motion, time):
    # Begun as long behind the time as its end was ahead, it ends as long behind as its beginning was ahead.
    return begun_at(turned(motion), plus(time, minus(time, end_of(motion))))


def turned_round(run, time):
    need_later(run, time)
    motions = [turned_at(motion, time) for motion in reversed(begun_ahead(run[-1][TRACK], time))]
    first = worth_on(run, time) if len(motions) == 0 else motions[0][START]
    return with_piece(run, time, first, motions)

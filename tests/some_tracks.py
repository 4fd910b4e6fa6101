"""Right tracks, things that are none, the times about a track, and what the tests ask of it there."""

from fractions import Fraction

from exact import told
from measures import KINDS, asked_worth
from things import OTHER_THINGS, a_motion, a_track, spoilt_track

TINY = Fraction(1, 10 ** 40)


def chained(kinds, gaps, worths):
    """A track of such kinds, each motion starting from the goal of the one ahead, with such pauses between."""
    begin = Fraction(0)
    motions = []
    for place, kind in enumerate(kinds):
        begin += Fraction(gaps[place])
        speeds = (3, -2) if kind == "kept" else (0, 0)
        motions.append(a_motion(worths[place], worths[place + 1], begin, place + 1, kind, *speeds))
        begin += place + 1
    return a_track(worths[0], *motions)


EMPTY = a_track("5/2")
ONE = a_track(0, a_motion(0, 4, 2, 4, "even"))
TOUCHING = a_track(0, a_motion(0, 4, 0, 2, "in"), a_motion(4, 1, 2, 3, "out"))
PAUSING = a_track(1, a_motion(1, 3, 1, 2, "hold"), a_motion(3, 7, 5, 1, "jump"), a_motion(7, 0, "13/2", "1/2", "both"))
STRAY = a_track(9, a_motion(0, 4, 0, 2, "even"), a_motion(1, 3, 2, 2, "kept", 1, "-1/2"), a_motion(8, 8, 6, 1, "in"))
FOUR = (PAUSING[0], PAUSING[1] + (a_motion(0, "2/3", 9, "1/3", "in"),))
CHAINED = [
    chained((one, other), gaps, worths)
    for one in KINDS + ["kept"]
    for other in KINDS + ["kept"]
    for gaps in [(0, 0), (1, 0), (0, 1), (-3, "1/2")]
    for worths in [(0, 1, 0), (1, 5, 2), (2, 2, 3), (2, 3, 3)]
]
TRACKS = [EMPTY, ONE, TOUCHING, PAUSING, STRAY] + CHAINED
OTHER_FORMS = [ONE[1], ONE[1][0], [ONE], ((None, ONE),), ("wait", (1, 1)), ("go", (1, 1), (1, 1), "in")]
OVERLAPPING = a_track(0, a_motion(0, 4, 2, 4, "even"), a_motion(4, 1, 5, 2, "in"))
NO_TRACKS = OTHER_THINGS + OTHER_FORMS + [OVERLAPPING] + list(spoilt_track(ONE))


def edges(one):
    times = [told(part[2]) for part in one[1]] + [told(part[2]) + told(part[3]) for part in one[1]]
    return sorted(set(times))


def times_of(one):
    """Ahead of all, at and beside every edge, between the edges, and behind all."""
    at = edges(one) or [Fraction(0)]
    near = [time + step for time in at for step in (-TINY, 0, TINY)]
    middles = [(left + right) / 2 for left, right in zip(at, at[1:])]
    return sorted([at[0] - 7] + near + middles + [at[-1] + 7])


def last_begun(one, time):
    begun = [part for part in one[1] if told(part[2]) <= time]
    return begun[-1] if begun else None


def asked_worth_of(one, time):
    begun = last_begun(one, time)
    return told(one[0]) if begun is None else asked_worth(begun, time)

"""Kinds of ways from none to all: how far they are at a part, and how fast they go there."""

from glideways.errors import NoKind
from glideways.fracs import ONE, ZERO, frac, is_less, least_frac, minus, most_frac, times, whole

KINDS = ("even", "in", "out", "both", "hold", "jump")
TURNED = {"in": "out", "out": "in", "hold": "jump", "jump": "hold"}


def is_kind(thing):
    # A walk by likeness, not by hash: the thing may be a list.
    return thing in KINDS


def need_kind(kind):
    if not is_kind(kind):
        raise NoKind("none of the six kinds")


def kept_within(part):
    return most_frac([ZERO, least_frac([ONE, part])])


def eased(kind, part):
    need_kind(kind)
    p = kept_within(part)
    if kind == "even":
        return p
    if kind == "in":
        return times(p, p)
    if kind == "out":
        return minus(times(whole(2), p), times(p, p))
    if kind == "both":
        return times(times(p, p), minus(whole(3), times(whole(2), p)))
    if kind == "hold":
        return ONE if p == ONE else ZERO
    return ZERO if p == ZERO else ONE


def slope(kind, part):
    need_kind(kind)
    if is_less(part, ZERO) or is_less(ONE, part):
        return ZERO
    if kind == "even":
        return ONE
    if kind == "in":
        return times(whole(2), part)
    if kind == "out":
        return minus(whole(2), times(whole(2), part))
    if kind == "both":
        return times(whole(6), minus(part, times(part, part)))
    return ZERO


def turned_kind(kind):
    need_kind(kind)
    return TURNED.get(kind, kind)


def far_on(kind, many):
    need_kind(kind)
    if many < 1:
        # A bound alone refuses nothing, and without parts there is nothing to tell.
        return []
    return [eased(kind, frac(done, many)) for done in range(many + 1)]

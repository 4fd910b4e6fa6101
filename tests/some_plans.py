"""Right plans, things that are none, and which steps and sizes the tests ask of them."""

from exact import pair, told
from measures import KINDS
from things import HUGE, OTHER_THINGS, a_motion, a_track, doubled, nested


def go(goal, size, kind):
    return ("go", pair(goal), pair(size), kind)


def by(more, size, kind):
    return ("by", pair(more), pair(size), kind)


def wait(size):
    return ("wait", pair(size))


def then(one, other):
    return ("then", one, other)


def again(many, plan):
    return ("again", many, plan)


def in_turn(steps):
    """The steps as then of the first one and of the others: only for a few, as a plan is not deep."""
    return steps[0] if len(steps) == 1 else then(steps[0], in_turn(steps[1:]))


def deep_by_then(deep, left):
    plan = wait(1)
    for step in range(deep - 1):
        plan = then(plan, go(1, 1, "in")) if left else then(go(1, 1, "in"), plan)
    return plan


def deep_by_again(deep):
    plan = by(1, 1, "out")
    for step in range(deep - 1):
        plan = again(1, plan)
    return plan


GO, BY, WAIT = go(3, 2, "in"), by("1/2", "1/3", "out"), wait("3/4")
NOTHING = again(0, GO)
FORKED = then(then(GO, BY), then(BY, WAIT))
STEPS = [GO, BY, WAIT] + [go(-1, 1, kind) for kind in KINDS] + [by("-7/3", 5, kind) for kind in KINDS]
PLANS = STEPS + [
    then(GO, BY), then(WAIT, GO), then(GO, WAIT), then(WAIT, WAIT), then(BY, then(WAIT, GO)), then(then(GO, WAIT), BY),
    NOTHING, again(1, WAIT), again(2, BY), again(3, then(BY, WAIT)), again(4, GO), again(4, again(4, BY)),
    again(2, then(WAIT, again(3, by(1, 1, "hold")))), again(3, NOTHING), then(NOTHING, NOTHING), then(NOTHING, BY),
    then(again(2, then(GO, WAIT)), then(again(3, BY), go(0, 1, "jump"))), again(0, again(4, then(GO, BY))),
    deep_by_then(5, True), deep_by_then(5, False), deep_by_again(5), FORKED, then(FORKED, FORKED),
]
NO_PLANS = OTHER_THINGS + [
    deep_by_then(6, True), deep_by_then(6, False), deep_by_again(6), deep_by_again(10), deep_by_then(11, True),
    again(5, GO), again(-1, GO), again(True, GO), again(False, GO), again((1, 1), GO), again("2", GO), again(None, GO),
    go(1, 0, "in"), by(1, -1, "in"), wait(0), wait("-1/2"), go(1, 1, "kept"), by(1, 1, "kept"), list(GO), [GO],
    (GO,), (GO, BY), [GO, BY], ("then", GO), ("then", GO, BY, WAIT), ("then", [GO, BY]), ("then", GO, None),
    ("again", 2), ("again", GO, 2), ("again", 2, GO, BY), ("wait", (2, 4)), ("wait", (True, 1)), ("wait", (1, True)),
    ("go", (1, 1), (1, 1)), ("go", (1, 1), (1, 1), "in", None), ("Go", (1, 1), (1, 1), "in"), "go 1 1 in",
    a_motion(0, 1, 0, 1, "in"), a_track(0), ((None, a_track(0)),), nested(GO, 10), doubled(GO, 8), ("then",) * 3,
]
WORTHS = [(0, 1), (3, 1), (-5, 2), (HUGE, 7)]


def asked_steps(plan):
    if plan[0] == "then":
        return asked_steps(plan[1]) + asked_steps(plan[2])
    if plan[0] == "again":
        return [step for turn in range(plan[1]) for step in asked_steps(plan[2])]
    return [plan]


def asked_sizes(plan):
    return [told(step[1] if step[0] == "wait" else step[2]) for step in asked_steps(plan)]

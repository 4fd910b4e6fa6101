"""Cues: when the steps of a plan begin, which goes on at a time, and which kinds they are of."""

from glideways.errors import NoPlan
from glideways.fracs import is_less, plus
from glideways.plans import need_plan, size_of, step_size, steps_of


def cues(plan, begin):
    need_plan(plan)
    found = []
    now = begin
    for step in steps_of(plan):
        found.append(now)
        now = plus(now, step_size(step))
    return found


def step_at(plan, begin, time):
    begun = [cue for cue in cues(plan, begin) if not is_less(time, cue)]
    # Each step ends where the next one begins, so only the end of all can lie ahead of the time.
    if len(begun) == 0 or not is_less(time, plus(begin, size_of(plan))):
        return None
    return len(begun) - 1


def in_turn(steps):
    plan = steps[-1]
    for step in reversed(steps[:-1]):
        plan = ("then", step, plan)
    return plan


def first_steps(plan, many):
    need_plan(plan)
    steps = steps_of(plan)
    if len(steps) == 0:
        raise NoPlan("a plan without steps")
    # A bound alone refuses nothing, and the least that can be told is one step.
    return in_turn(steps[:max(many, 1)])


def kind_word(step):
    return step[0] if step[0] == "wait" else step[3]


def kinds_used(plan):
    need_plan(plan)
    words = [kind_word(step) for step in steps_of(plan)]
    return [(word, words.count(word)) for word in sorted(set(words))]

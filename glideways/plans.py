"""Plans: go, by and wait as steps, then and again to put plans together."""

from glideways.errors import NoPlan
from glideways.fracs import ZERO, all_plus, is_frac, is_size, is_whole, over, plus, times
from glideways.kinds import is_kind, turned_kind
from glideways.motions import plain_motion
from glideways.tracks import last_worth

DEEPEST = 5
MOST_AGAIN = 4


def is_plan(thing):
    return is_plan_within(thing, DEEPEST)


def is_plan_within(thing, deep):
    if deep == 0 or not isinstance(thing, tuple) or len(thing) == 0:
        return False
    word = thing[0]
    if word == "go" or word == "by":
        return len(thing) == 4 and is_frac(thing[1]) and is_size(thing[2]) and is_kind(thing[3])
    if word == "wait":
        return len(thing) == 2 and is_size(thing[1])
    if word == "then":
        return len(thing) == 3 and is_plan_within(thing[1], deep - 1) and is_plan_within(thing[2], deep - 1)
    if word == "again":
        return len(thing) == 3 and is_many(thing[1]) and is_plan_within(thing[2], deep - 1)
    return False


def is_many(thing):
    return is_whole(thing) and thing >= 0 and thing <= MOST_AGAIN


def need_plan(plan):
    if not is_plan(plan):
        raise NoPlan("no plan")


def steps_of(plan):
    if plan[0] == "then":
        return steps_of(plan[1]) + steps_of(plan[2])
    if plan[0] == "again":
        return steps_of(plan[2]) * plan[1]
    return [plan]


def step_size(step):
    return step[1] if step[0] == "wait" else step[2]


def size_of(plan):
    return all_plus([step_size(step) for step in steps_of(plan)])


def step_goal(step, here):
    if step[0] == "wait":
        return here
    if step[0] == "by":
        return plus(here, step[1])
    return step[1]


def played(plan, worth, begin):
    need_plan(plan)
    motions = []
    here = worth
    now = begin
    for step in steps_of(plan):
        goal = step_goal(step, here)
        if step[0] != "wait":
            motions.append(plain_motion(here, goal, now, step[2], step[3]))
        here = goal
        now = plus(now, step_size(step))
    return (worth, tuple(motions))


def end_worth(plan, worth):
    return last_worth(played(plan, worth, ZERO))


def slower(plan, by):
    need_plan(plan)
    return with_sizes_times(plan, by)


def with_sizes_times(plan, by):
    if plan[0] == "then":
        return ("then", with_sizes_times(plan[1], by), with_sizes_times(plan[2], by))
    if plan[0] == "again":
        return ("again", plan[1], with_sizes_times(plan[2], by))
    if plan[0] == "wait":
        return ("wait", times(plan[1], by))
    return (plan[0], plan[1], times(plan[2], by), plan[3])


def fitted(plan, size):
    need_plan(plan)
    if not is_size(size):
        raise NoPlan("a size that is not above 0")
    takes = size_of(plan)
    if takes == ZERO:
        raise NoPlan("a plan that takes no time")
    return slower(plan, over(size, takes))


def step_back(step, here):
    if step[0] == "wait":
        return step
    return ("go", here, step[2], turned_kind(step[3]))


def way_back(plan, worth):
    need_plan(plan)
    back = []
    here = worth
    for step in steps_of(plan):
        back.append(step_back(step, here))
        here = step_goal(step, here)
    return list(reversed(back))

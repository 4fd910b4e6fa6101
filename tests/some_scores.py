"""Scores of such plans, and all that a score tells."""

from glideways.scores import Score


def a_score(**plans):
    score = Score()
    for name, plan in plans.items():
        score.put(name, plan)
    return score


def plans_of(score):
    return {name: score.plan_of(name) for name in score.names()}


def state_of(score):
    """All that a score tells: its plans, and what it tells when it goes back to its beginning and forth to its end."""
    there = score.twin()
    told = [plans_of(there), there.counts()]
    while there.counts()[0] > 0:
        told.append((there.back(), plans_of(there), there.counts()))
    while there.counts()[1] > 0:
        told.append((there.forth(), plans_of(there), there.counts()))
    return told

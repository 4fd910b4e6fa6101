"""Scores: plans by names, all that is done to them going back and forth, and the texts of scores."""

from glideways.errors import NoBack, NoName, NoPlan, NoText
from glideways.fracs import is_size
from glideways.plans import need_plan, slower
from glideways.texts import read, written

LETTERS = "abcdefghijklmnopqrstuvwxyz"
LONGEST = 6

# A deed is a tuple of these: its word, the name it was done to, and the name's plan ahead of it and behind it.
WORD = 0
NAME = 1
AHEAD = 2
BEHIND = 3


def is_name(thing):
    if not isinstance(thing, str) or len(thing) == 0 or len(thing) > LONGEST:
        return False
    return all([sign in LETTERS for sign in thing])


class Score:
    def __init__(self):
        self.plans = {}
        self.done = []
        self.undone = []

    def put(self, name, plan):
        need_plan(plan)
        if not is_name(name):
            raise NoName("no name of 1 to 6 letters")
        had = name in self.plans
        self.do("put", name, plan)
        return had

    def plan_of(self, name):
        # The name's form comes first: a list can't be asked of a dict.
        if not is_name(name) or name not in self.plans:
            raise NoName("no plan has this name")
        return self.plans[name]

    def take(self, name):
        plan = self.plan_of(name)
        self.do("take", name, None)
        return plan

    def chain(self, name, other):
        return self.change("chain", name, ("then", self.plan_of(name), self.plan_of(other)))

    def repeat(self, name, many):
        return self.change("repeat", name, ("again", many, self.plan_of(name)))

    def slow(self, name, by):
        plan = self.plan_of(name)
        if not is_size(by):
            raise NoPlan("slower by no size")
        return self.change("slow", name, slower(plan, by))

    def change(self, word, name, plan):
        need_plan(plan)
        self.do(word, name, plan)
        return plan

    def do(self, word, name, plan):
        self.done.append((word, name, self.plans.get(name), plan))
        self.undone.clear()
        self.set_plan(name, plan)

    def set_plan(self, name, plan):
        # None stands for no plan.
        if plan is None:
            self.plans.pop(name)
        else:
            self.plans[name] = plan

    def names(self):
        return sorted(self.plans)

    def back(self):
        if len(self.done) == 0:
            raise NoBack("nothing to take back")
        deed = self.done.pop()
        self.undone.append(deed)
        self.set_plan(deed[NAME], deed[AHEAD])
        return deed[WORD]

    def forth(self):
        if len(self.undone) == 0:
            raise NoBack("nothing to do again")
        deed = self.undone.pop()
        self.done.append(deed)
        self.set_plan(deed[NAME], deed[BEHIND])
        return deed[WORD]

    def counts(self):
        return (len(self.done), len(self.undone))

    def twin(self):
        other = Score()
        other.plans = dict(self.plans)
        other.done = list(self.done)
        other.undone = list(self.undone)
        return other


def score_line(name, plan):
    text = written(plan)
    return f"{name}: {text}\n"


def score_text(score):
    return "".join([score_line(name, score.plan_of(name)) for name in score.names()])


def read_score(text):
    if not isinstance(text, str):
        raise NoText("no text")
    score = Score()
    for line in text.split("\n")[:-1]:
        parts = line.partition(": ")
        if not is_name(parts[0]):
            raise NoText("no name of 1 to 6 letters")
        score.set_plan(parts[0], read(parts[2]))
    # Names out of order or told twice, and a last line without its end, show here.
    if score_text(score) != text:
        raise NoText("not as a score is written")
    return score

"""Fractions and plans as they are written, texts that are the writing of none, and what the tests ask of any text."""

import re
from math import gcd

from measures import KINDS
from some_plans import BY, GO, NOTHING, WAIT, again, by, deep_by_again, deep_by_then, go, then, wait

WRITTEN_FRACS = [
    ((0, 1), "0"), ((1, 1), "1"), ((-1, 1), "-1"), ((10, 1), "10"), ((-120, 1), "-120"), ((1, 2), "1/2"),
    ((-1, 2), "-1/2"), ((3, 2), "3/2"), ((-7, 10), "-7/10"), ((100, 101), "100/101"),
    ((999999999, 1), "999999999"), ((-999999999, 1), "-999999999"), ((1, 999999999), "1/999999999"),
    ((-999999998, 999999999), "-999999998/999999999"), ((123456789, 100000000), "123456789/100000000"),
]
NO_FRAC_TEXTS = [
    "", " ", "-", "/", "+", "-/", "--1", "+1", "-0", "+0", "00", "01", "-01", "007", "1/", "/2", "1//2", "1/2/3", "-/2",
    "1/1", "-1/1", "0/1", "0/2", "-0/1", "2/4", "-2/4", "6/3", "3/3", "1/0", "0/0", "-1/0", "1/-2", "-1/-2", "1/+2",
    "1/02", "01/2", " 1", "1 ", " 1/2", "1/2 ", "1 /2", "1/ 2", "1 2", "1.5", "1e3", "1_000", "1,5", "0x1", "one", "a",
    "1a", "a1", "1-", "1-2", "(1, 2)", "1\\2", "None", "True", "1000000000", "-1000000000", "1/1000000000",
    "1000000000/3", "-1000000000/3", "0000000001", "12345678901234567890", "9" * 5000, "-" + "9" * 5000,
    "1/" + "9" * 5000, "1" + "0" * 9 + "/" + "1" + "0" * 9,
]
# Python itself takes the first ones of these for figures, and strips the blanks of the others.
OTHER_SIGNS = ["\u0661", "1/\u0662", "\uff11", "\u00b2", "\u0967", "\u00bd"]
OTHER_SIGNS += ["1\n", "\n1", "\t1", "1\t", "1\r", "1\u00a0"]
WRITTEN_PLANS = [
    (GO, "go 3 2 in"), (BY, "by 1/2 1/3 out"), (WAIT, "wait 3/4"), (go(-1, 1, "hold"), "go -1 1 hold"),
    (by("-7/3", 5, "jump"), "by -7/3 5 jump"), (go(0, "1/9", "both"), "go 0 1/9 both"),
    (then(GO, BY), "then go 3 2 in by 1/2 1/3 out"), (then(WAIT, WAIT), "then wait 3/4 wait 3/4"),
    (then(go("1/2", 3, "in"), again(2, wait(1))), "then go 1/2 3 in again 2 wait 1"),
    (NOTHING, "again 0 go 3 2 in"), (again(4, BY), "again 4 by 1/2 1/3 out"),
    (again(1, again(3, WAIT)), "again 1 again 3 wait 3/4"),
    (then(then(GO, WAIT), BY), "then then go 3 2 in wait 3/4 by 1/2 1/3 out"),
    (then(GO, then(WAIT, BY)), "then go 3 2 in then wait 3/4 by 1/2 1/3 out"),
    (deep_by_again(5), "again 1 again 1 again 1 again 1 by 1 1 out"),
    (deep_by_then(5, True), "then then then then wait 1 go 1 1 in go 1 1 in go 1 1 in go 1 1 in"),
    (deep_by_then(5, False), "then go 1 1 in then go 1 1 in then go 1 1 in then go 1 1 in wait 1"),
]
NO_PLAN_TEXTS = [
    "", " ", "go", "by", "wait", "then", "again", "go 1", "go 1 1", "go 1 1 in ", " go 1 1 in", "go  1 1 in",
    "go 1 1 in in", "go 1 1 in wait 1", "go in 1 1", "go 1 in 1", "wait 1 1", "wait in", "wait 1 in",
    "go 1 1 in go 1 1 in",
    "go 1 0 in", "go 1 -1 in", "go 1 -1/2 in", "by 1 0 in", "by 1 -2 in", "wait 0", "wait -1", "wait -1/2", "wait -0",
    "go 1 1 kept", "go 1 1 In", "go 1 1 IN", "go 1 1 turned", "go 1 1 wait", "go 1 1 go", "go 1 1 1", "by 1 1 even.",
    "again 5 wait 1", "again 6 wait 1", "again 10 wait 1", "again -1 wait 1", "again -0 wait 1", "again 02 wait 1",
    "again 00 wait 1", "again +2 wait 1", "again 2/1 wait 1", "again 1/2 wait 1", "again 4/2 wait 1", "again wait 1",
    "again wait 1 2", "again 2 2 wait 1", "again 2", "again 2 again 2", "again 999999999 wait 1", "again True wait 1",
    "again 1234567890 wait 1", "then wait 1", "then wait 1 wait 1 wait 1", "then wait 1 then",
    "then then wait 1 wait 1",
    "wait 1000000000", "wait 1/1000000000", "go 1000000000 1 in", "go -1000000000 1 in", "by 1/1000000000 1 out",
    "wait 2/4", "wait 1/1", "wait 01", "wait +1", "wait 1/0", "wait 1/-2", "go -0 1 in", "go 2/4 1 in", "go 1/1 1 in",
    "Go 1 1 in", "WAIT 1", "stay 1", "in", "1", "1/2", "wait\t1", "wait,1", "wait_1", "wait1", "('wait', (1, 1))",
    "again 1 again 1 again 1 again 1 again 1 wait 1", "again 0 again 0 again 0 again 0 again 0 wait 1",
    "then wait 1 again 1 again 1 again 1 again 1 wait 1", "then " * 3000 + "wait 1", "again 1 " * 3000 + "wait 1",
    "then " * 6 + "wait 1 " * 6 + "wait 1", "wait 1 " * 3000, " " * 3000, "then wait 1 " * 3000 + "wait 1",
    "wait 1\n", "\nwait 1", "wait 1\nwait 1", "wait \u0661", "again \u0662 wait 1", "w\u00e4it 1", "wait\u00a01",
]
FRAC_FORM = re.compile(r"(0|-?[1-9][0-9]{0,8})(?:/([1-9][0-9]{0,8}))?")


def asked_frac(text):
    """The fraction of which the text is the writing, by its form as a whole, or None."""
    found = FRAC_FORM.fullmatch(text)
    if found is None:
        return None
    up, down = int(found[1]), int(found[2] or "1")
    return (up, down) if found[2] != "1" and gcd(up, down) == 1 else None


def asked_plans(words, deep):
    """All plans that words at the front write, each with the words left behind it."""
    if deep == 0 or not words:
        return
    word, others = words[0], words[1:]
    if word == "then":
        for one, behind in asked_plans(others, deep - 1):
            for other, left in asked_plans(behind, deep - 1):
                yield then(one, other), left
    if word == "again" and others and re.fullmatch("[0-4]", others[0]):
        for one, left in asked_plans(others[1:], deep - 1):
            yield again(int(others[0]), one), left
    if word == "wait" and others and (asked_frac(others[0]) or (0, 1))[0] > 0:
        yield ("wait", asked_frac(others[0])), others[1:]
    if word in ("go", "by") and len(others) >= 3 and others[2] in KINDS:
        worth, size = asked_frac(others[0]), asked_frac(others[1])
        if worth is not None and size is not None and size[0] > 0:
            yield (word, worth, size, others[2]), others[3:]


def asked_plan(text):
    for plan, left in asked_plans(text.split(" "), 5):
        if not left:
            return plan
    return None

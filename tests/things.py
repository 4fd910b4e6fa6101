"""Right motions, tracks, runs and plans, each of them spoilt part by part, and things of every other sort."""

from exact import pair

HUGE = 10 ** 300 + 1
STILL = ((0, 1), (0, 1))


def a_motion(start, goal, begin, long, kind, first=0, last=0):
    return (pair(start), pair(goal), pair(begin), pair(long), kind, (pair(first), pair(last)))


def a_track(first, *motions):
    return (pair(first), motions)


def nested(thing, deep):
    for step in range(deep):
        thing = [thing] if step % 2 else (thing,)
    return thing


def doubled(thing, deep):
    for step in range(deep):
        thing = (thing, thing)
    return thing


NO_KINDS = [
    "kept", "", "Even", "EVEN", "even ", " even", "evenin", "eve", "e", "turned", "wait", "linear",
    None, True, False, 0, 1, -1, HUGE, [], ["even"], ["even", "in"], (), ("even",), ("in", "out"), (1, 2),
    [None], (True,), [["even"]], (("even",),), nested("even", 10),
    ("even", "in", "out", "both", "hold", "jump"), ["even", "in", "out", "both", "hold", "jump"],
]

# None of these is a motion, a track, a run or a plan.
OTHER_THINGS = [
    None, True, False, 0, 1, -1, 5, HUGE, "", "go", "wait 1", "even", "kept", "((0, 1), ())", "None",
    [], (), [()], ((),), ([],), [None], (None,), (True,), (1,), ("go",), ("wait",), ("then",), ("again",),
    (0, 1), (1, 2), [0, 1], ((0, 1),), [(0, 1)], ((0, 1), (0, 1)), ((0, 1), [(0, 1)]), (None, None), (None, ()),
    ((None,),), ((None, None),), ((None, ()),), ("", ()), (True, ()), ((True, 1), ()), ((0, True), ()), ([0, 1], ()),
    (1, 2, 3, 4, 5, 6), ((), (), (), (), (), ()), (None,) * 6, [None] * 6, "abcdef", ("a", "b", "c", "d", "e", "f"),
    ((0, 1),) * 6, (True, False, True, False, True, False), (0,) * 6, ("go", 1, 1, "even"), ["wait", (1, 1)],
    nested((0, 1), 10), nested(("wait", (1, 1)), 10), nested(None, 10), nested("go", 10), nested(((0, 1), ()), 9),
    doubled((0, 1), 10), doubled((), 10), doubled(("wait", (1, 1)), 8), doubled([None, True], 10),
]


def with_part(thing, place, part):
    return thing[:place] + (part,) + thing[place + 1:]


def without_part(thing, place):
    return thing[:place] + thing[place + 1:]


def spoilt_form(thing):
    """A tuple of fixed length as a list, with a part too many or too few, in another tuple, and other things."""
    yield list(thing)
    for more in [None, thing[-1], thing[0], (0, 1), ()]:
        yield thing + (more,)
    for place in range(len(thing)):
        yield without_part(thing, place)
    yield from [(), [], (thing,), [thing], (thing, thing), str(thing), "", None, True, False, 0, 1]


def spoilt_frac(one):
    up, down = one
    yield from [(2 * up, 2 * down), (3 * up, 3 * down), (-up, -down), (up, 0), (up, -down)]
    yield from [(bool(up), down), (not up, down), (up, bool(down)), (up, False), (True, True), (False, True)]
    yield from [(str(up), down), (up, str(down)), (None, down), (up, None), ([up], down), (up, (down,))]
    yield from [f"{up}/{down}", up, nested(one, 10)]
    yield from spoilt_form(one)


def spoilt_size(size):
    yield from [(0, 1), (-1, 1), (-1, 2), (-size[0], size[1])]
    yield from spoilt_frac(size)


def spoilt_motion(one):
    yield from spoilt_form(one)
    for place in (0, 1, 2):
        for part in spoilt_frac(one[place]):
            yield with_part(one, place, part)
    for part in spoilt_size(one[3]):
        yield with_part(one, 3, part)
    for part in NO_KINDS:
        if part != "kept":
            yield with_part(one, 4, part)
    for part in spoilt_speeds(one[5], one[4] == "kept"):
        yield with_part(one, 5, part)


def spoilt_speeds(speeds, kept):
    yield from spoilt_form(speeds)
    for place in (0, 1):
        for part in spoilt_frac(speeds[place]):
            yield with_part(speeds, place, part)
    if not kept:
        yield from [((1, 1), (0, 1)), ((0, 1), (1, 1)), ((-1, 3), (0, 1)), ((0, 1), (-1, 3)), ((2, 1), (2, 1))]


def spoilt_track(one):
    first, motions = one
    yield from spoilt_form(one)
    for part in spoilt_frac(first):
        yield (part, motions)
    for part in [list(motions), None, True, 0, "", "even", (0, 1), (None,), ((),), (motions,), (one,), [()]]:
        yield (first, part)
    if motions:
        yield (first, motions[0])
    for place, inner in enumerate(motions):
        # A motion twice begins ahead of its own end.
        yield (first, motions[:place] + (inner,) + motions[place:])
        for part in spoilt_motion(inner):
            yield (first, with_part(motions, place, part))


def spoilt_piece(piece):
    yield from spoilt_form(piece)
    for part in spoilt_track(piece[1]):
        yield with_part(piece, 1, part)


def spoilt_run(run):
    yield from [list(run), (), [], run + (None,), run + ((),), run + ((None, run[0][1]),), run[0], run[0][1], str(run)]
    for place, piece in enumerate(run):
        for part in spoilt_piece(piece):
            yield with_part(run, place, part)
        times = [(0, 1), (5, 1), "", "None", 0, True, False, ()] if place == 0 else spoilt_frac(piece[0])
        for part in times:
            yield with_part(run, place, with_part(piece, 0, part))
        if place > 0:
            # The same time twice.
            yield run[:place] + (piece,) + run[place:]


def spoilt_plan(plan):
    yield from spoilt_form(plan)
    for word in ["", "Go", "go ", "stay", "g", "motion", None, True, 0, 1, [plan[0]], (plan[0],), (), (0, 1)]:
        yield with_part(plan, 0, word)
    for other in ["go", "wait", "then", "again"]:
        if other != plan[0] and (plan[0], other) != ("by", "go"):
            yield with_part(plan, 0, other)
    for place, part in spoilt_plan_parts(plan):
        yield with_part(plan, place, part)


def spoilt_plan_parts(plan):
    if plan[0] in ("go", "by"):
        yield from [(1, part) for part in spoilt_frac(plan[1])]
        yield from [(2, part) for part in spoilt_size(plan[2])]
        yield from [(3, part) for part in NO_KINDS]
    elif plan[0] == "wait":
        yield from [(1, part) for part in spoilt_size(plan[1])]
    else:
        if plan[0] == "then":
            yield from [(1, part) for part in spoilt_plan(plan[1])]
        else:
            many = [5, 6, -1, -4, HUGE, True, False, None, "", "2", (2, 1), (2,), [2], [], plan[2]]
            yield from [(1, part) for part in many]
        yield from [(2, part) for part in spoilt_plan(plan[2])]


SIGNS = [chr(number) for number in range(ord(" "), ord("~") + 1)]


def spoilt_signs(text, signs):
    """The text with a sign taken out, put in or exchanged, at each place."""
    for place in range(len(text) + 1):
        yield text[:place] + text[place + 1:]
        for sign in signs:
            yield text[:place] + sign + text[place:]
            yield text[:place] + sign + text[place + 1:]


def spoilt_words(text):
    """The text with a word left out, told twice, or exchanged for another, and with blanks where none are asked."""
    words = text.split(" ")
    others = ["go", "by", "wait", "then", "again", "even", "kept", "in", "Go", "x", ""]
    others += ["0", "1", "-1", "5", "2/4", "1/2"]
    for place in range(len(words)):
        ahead, word, behind = words[:place], words[place], words[place + 1:]
        for instead in [[], [word, word], [word, ""], ["", word]] + [[one] for one in others + words]:
            yield " ".join(ahead + instead + behind)
    yield from [" " + text, text + " ", text + text, text + " " + text, text.upper(), text.replace(" ", "  "), ""]
    yield from [text.replace(" ", sign) for sign in "\t_,-/"]

"""Texts: how fractions and plans are written, and read back from just that writing."""

from glideways.errors import NoText
from glideways.fracs import is_frac
from glideways.plans import DEEPEST, is_plan

FIGURES = "0123456789"
MOST_FIGURES = 9


def frac_text(one):
    up = one[0]
    down = one[1]
    return f"{up}" if down == 1 else f"{up}/{down}"


def written(plan):
    return " ".join([plan[0]] + parts_written(plan))


def parts_written(plan):
    if plan[0] == "then":
        return [written(plan[1]), written(plan[2])]
    if plan[0] == "again":
        return [str(plan[1]), written(plan[2])]
    if plan[0] == "wait":
        return [frac_text(plan[1])]
    return [frac_text(plan[1]), frac_text(plan[2]), plan[3]]


def are_figures(text):
    # Sign by sign: Python takes many more signs than these ten for figures.
    return all([sign in FIGURES for sign in text])


def read_whole(text):
    figures = text[1:] if text.startswith("-") else text
    if len(figures) == 0 or len(figures) > MOST_FIGURES or not are_figures(figures):
        raise NoText("no whole number of at most 9 figures")
    return int(text)


def read_frac(text):
    parts = text.partition("/")
    up = read_whole(parts[0])
    down = 1 if parts[1] == "" else read_whole(parts[2])
    # What would be written otherwise, such as 1/1, -0 or 01, is not the writing of it.
    if not is_frac((up, down)) or frac_text((up, down)) != text:
        raise NoText("not as a fraction is written")
    return (up, down)


def read(text):
    plan = take_plan(text.split(" "), DEEPEST)
    # All that was taken as it stood shows here: words and kinds that are none, a number such as 02, words left over.
    if not is_plan(plan) or written(plan) != text:
        raise NoText("not as a plan is written")
    return plan


def take_word(words):
    if len(words) == 0:
        raise NoText("a word is missing")
    return words.pop(0)


def take_plan(words, deep):
    # However many words there are, no more plans are opened than a plan may be deep.
    if deep == 0:
        raise NoText("too deep for a plan")
    word = take_word(words)
    if word == "then":
        one = take_plan(words, deep - 1)
        return (word, one, take_plan(words, deep - 1))
    if word == "again":
        many = read_whole(take_word(words))
        return (word, many, take_plan(words, deep - 1))
    return take_step(word, words)


def take_step(word, words):
    if word == "wait":
        return (word, read_frac(take_word(words)))
    worth = read_frac(take_word(words))
    size = read_frac(take_word(words))
    return (word, worth, size, take_word(words))

"""Marks: tuples (time, label), and which of them are passed forth and back."""

from glideways.fracs import is_less

TIME = 0
LABEL = 1


def marks_till(marks, time):
    return [mark for mark in marks if not is_less(time, mark[TIME])]


def by_times(marks):
    risen = []
    for mark in marks:
        # Behind all of its own time that stood ahead of it, so those stay as they stand.
        risen.insert(len(marks_till(risen, mark[TIME])), mark)
    return risen


def labels_forth(marks, low, high):
    return [mark[LABEL] for mark in marks if is_less(low, mark[TIME]) and not is_less(high, mark[TIME])]


def labels_back(marks, low, high):
    return [mark[LABEL] for mark in marks if not is_less(mark[TIME], low) and is_less(mark[TIME], high)]


def passed(marks, start, goal):
    risen = by_times(marks)
    if is_less(goal, start):
        return labels_back(list(reversed(risen)), goal, start)
    return labels_forth(risen, start, goal)


def next_mark(marks, time):
    behind = [mark for mark in by_times(marks) if is_less(time, mark[TIME])]
    return None if len(behind) == 0 else behind[0]


def last_mark(marks, time):
    till = marks_till(by_times(marks), time)
    return None if len(till) == 0 else till[-1]

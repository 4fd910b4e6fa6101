"""Sheets: dicts from names to tracks, which go side by side."""

from glideways.errors import NoName
from glideways.fracs import all_plus, most_frac, plus
from glideways.plans import need_plan, played
from glideways.tracks import end_time, motion_on, track_moved, worth_of


def shown(sheet, time):
    worths = {}
    for name in sheet:
        worths[name] = worth_of(sheet[name], time)
    return worths


def last_end(sheet):
    ends = [end_time(track) for track in sheet.values()]
    known = [end for end in ends if end is not None]
    return None if len(known) == 0 else most_frac(known)


def going(sheet, time):
    return sorted([name for name in sheet if motion_on(sheet[name], time) is not None])


def added(sheet, time):
    return all_plus([worth_of(track, time) for track in sheet.values()])


def with_track(sheet, name, track):
    found = dict(sheet)
    found[name] = track
    return found


def need_name(sheet, name):
    if name not in sheet:
        raise NoName("no track has this name")


def without_track(sheet, name):
    need_name(sheet, name)
    found = dict(sheet)
    found.pop(name)
    return found


def put_off(sheet, name, by):
    need_name(sheet, name)
    return with_track(sheet, name, track_moved(sheet[name], by))


def staggered(names, plan, worth, begin, gap):
    # Asked here too, so that a wrong plan is refused even where no name plays it.
    need_plan(plan)
    sheet = {}
    now = begin
    for name in names:
        sheet[name] = played(plan, worth, now)
        now = plus(now, gap)
    return sheet

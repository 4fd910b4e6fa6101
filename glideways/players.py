"""Players: they show a track's worth at a time that goes on by ticks, and hear the marks that are passed."""

from glideways.errors import NoTime
from glideways.fracs import ONE, ZERO, is_less, least_frac, most_frac, plus, times
from glideways.marks import passed
from glideways.tracks import end_time, need_track, worth_of


def last_time(track):
    end = end_time(track)
    return ZERO if end is None else most_frac([ZERO, end])


class Player:
    def __init__(self, track, marks):
        need_track(track)
        self.track = track
        # A list of its own: who handed the marks in may change theirs later.
        self.marks = list(marks)
        self.last = last_time(track)
        self.now = ZERO
        self.pace = ONE
        self.plays = False
        self.heard = []

    def play(self):
        self.plays = True

    def pause(self):
        self.plays = False

    def set_pace(self, pace):
        self.pace = pace

    def seek(self, time):
        if is_less(time, ZERO) or is_less(self.last, time):
            raise NoTime("a time below 0 or behind the last one")
        self.now = time

    def tick(self, by):
        if is_less(by, ZERO):
            raise NoTime("a tick back")
        if not self.plays:
            return []
        ahead = self.now
        self.now = self.kept_in(plus(ahead, times(by, self.pace)))
        labels = passed(self.marks, ahead, self.now)
        self.heard.extend(labels)
        return labels

    def kept_in(self, time):
        return most_frac([ZERO, least_frac([self.last, time])])

    def time(self):
        return self.now

    def worth(self):
        return worth_of(self.track, self.now)

    def is_over(self):
        return self.now == (ZERO if is_less(self.pace, ZERO) else self.last)

    def all_heard(self):
        return list(self.heard)

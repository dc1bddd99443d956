"""Stations that keep folds till a low closes them: of fixed and slide rows, and of gap rows."""

from rowdam.folds import ends_of, first_of, merged
from rowdam.meanings import gap_of, window_of
from rowdam.stations import Station


class WindowStation(Station):
    def __init__(self, row):
        Station.__init__(self, row)
        window = window_of(row)
        self.width = window[0]
        self.step = window[1]
        self.fold = window[2]
        # From (end, key) to the fold so far.
        self.kept = {}

    def take_thing(self, way, thing):
        part = first_of(self.fold, thing[2])
        for end in ends_of(self.width, self.step, thing[0]):
            place = (end, thing[1])
            if place in self.kept:
                self.kept[place] = merged(self.fold, self.kept[place], part)
            else:
                self.kept[place] = part
        return []

    def close_at(self, low):
        closing = sorted([place for place in self.kept if place[0] <= low])
        told = [(place[0] - 1, place[1], self.kept[place]) for place in closing]
        for place in closing:
            self.kept.pop(place)
        return told

    def all_kept(self):
        return sorted([(place[0], place[1], part) for place, part in self.kept.items()])

    def keep_again(self, kept):
        self.kept = dict([((window[0], window[1]), window[2]) for window in kept])


class GapStation(Station):
    def __init__(self, row):
        Station.__init__(self, row)
        rest = gap_of(row)
        self.gap = rest[0]
        self.fold = rest[1]
        # Spans (first, last, key, fold so far).
        self.kept = []

    def is_near(self, span, thing):
        return span[2] == thing[1] and span[0] - self.gap < thing[0] < span[1] + self.gap

    def take_thing(self, way, thing):
        first = thing[0]
        last = thing[0]
        part = first_of(self.fold, thing[2])
        apart = []
        for span in self.kept:
            if self.is_near(span, thing):
                first = min(first, span[0])
                last = max(last, span[1])
                part = merged(self.fold, part, span[3])
            else:
                apart.append(span)
        self.kept = apart + [(first, last, thing[1], part)]
        return []

    def close_at(self, low):
        closing = [span for span in self.kept if span[1] + self.gap <= low]
        self.kept = [span for span in self.kept if span[1] + self.gap > low]
        return sorted([(span[1] + self.gap - 1, span[2], span[3]) for span in closing])

    def all_kept(self):
        return sorted(self.kept)

    def keep_again(self, kept):
        self.kept = list(kept)

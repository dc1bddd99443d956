"""Stations: what a row of a works that is no in tells, item by item."""

from rowdam.exprs import sieve_of
from rowdam.meanings import pairer_of, sharer_of, turner_of


def item_of(thing):
    return ("thing", thing[0], thing[1], thing[2])


class Station:
    # The kinds below differ in what they do with a thing, what they keep and what closes at a low; where one says
    # nothing of these, a thing is told as it is, nothing is kept and nothing closes.

    def __init__(self, row):
        self.marks = [0] * len(row[2])

    def low(self):
        return min(self.marks)

    def take_in(self, way, item):
        if item[0] == "mark":
            return self.take_mark(way, item[1])
        return self.take_thing(way, item[1:])

    def take_mark(self, way, mark):
        if mark <= self.marks[way]:
            return []
        before = self.low()
        self.marks[way] = mark
        low = self.low()
        if low == before:
            return []
        return self.tell_low(low)

    def tell_low(self, low):
        return [item_of(thing) for thing in self.close_at(low)] + [("mark", low)]

    def take_thing(self, way, thing):
        return [item_of(thing)]

    def close_at(self, low):
        return []

    def all_kept(self):
        return []

    def keep_again(self, kept):
        pass

    def state(self):
        return (list(self.marks), self.all_kept())

    def put_back(self, state):
        self.marks = list(state[0])
        self.keep_again(state[1])


class PourStation(Station):
    pass


class KeepStation(Station):
    def __init__(self, row):
        Station.__init__(self, row)
        self.sieve = sieve_of(row[3])

    def take_thing(self, way, thing):
        return [item_of(thing)] if self.sieve(thing[0], thing[2]) else []


class TurnStation(Station):
    def __init__(self, row):
        Station.__init__(self, row)
        self.turn = turner_of(row)

    def take_thing(self, way, thing):
        return [item_of(self.turn(thing))]


class ShareStation(Station):
    def __init__(self, row):
        Station.__init__(self, row)
        self.is_shared = sharer_of(row)

    def take_thing(self, way, thing):
        return [item_of(thing)] if self.is_shared(thing[1]) else []


class OutStation(Station):
    def __init__(self, row):
        Station.__init__(self, row)
        self.kept = []

    def tell_low(self, low):
        return []

    def take_thing(self, way, thing):
        self.kept.append(thing)
        return []

    def all_kept(self):
        return list(self.kept)

    def keep_again(self, kept):
        self.kept = list(kept)


class JoinStation(Station):
    def __init__(self, row):
        Station.__init__(self, row)
        self.span = int(row[3][0])
        self.pair = pairer_of(row)
        # For each way its kept things.
        self.kept = ([], [])

    def take_thing(self, way, thing):
        self.kept[way].append(thing)
        told = []
        for other in sorted(self.kept[1 - way]):
            told.extend(self.pair(thing, other) if way == 0 else self.pair(other, thing))
        return [item_of(pair) for pair in told]

    def close_at(self, low):
        self.kept = (self.left_at(low, self.kept[0]), self.left_at(low, self.kept[1]))
        return []

    def left_at(self, low, kept):
        # No thing below the low comes any more, so the others can find no partner.
        return [thing for thing in kept if thing[0] + self.span >= low]

    def all_kept(self):
        kept = []
        for way in (0, 1):
            kept.extend([(way,) + thing for thing in self.kept[way]])
        return sorted(kept)

    def keep_again(self, kept):
        ways = ([], [])
        for thing in kept:
            ways[thing[0]].append(thing[1:])
        self.kept = ways

"""Pipes: what is put is taken in the same order, as far as there are rights."""

from rowdam.errors import Bare, Full, NoRoom
from rowdam.things import is_whole

MOST_ROOM = 100


def is_room(x):
    return is_whole(x) and 1 <= x <= MOST_ROOM


class Pipe:
    def __init__(self, room):
        if not is_room(room):
            raise NoRoom(f"a room is a whole number from 1 to {MOST_ROOM}")
        self.room = room
        self.rights = room
        self.owed = 0
        self.contents = []

    def put(self, item):
        if self.rights == 0:
            raise Full("no right is left")
        self.rights -= 1
        self.contents.append(item)

    def take(self):
        if not self.contents:
            raise Bare("nothing is held")
        self.owed += 1
        return self.contents.pop(0)

    def give(self):
        if self.owed == 0:
            raise Bare("no right is owed")
        given = self.owed
        self.rights += given
        self.owed = 0
        return given

    def is_empty(self):
        return not self.contents

    def inside(self):
        return list(self.contents)

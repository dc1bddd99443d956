"""What a desk is told ahead of the start: a works, the rows of its ins, the rooms of its pipes."""

from rowdam.errors import NoIn, NoOrder, NoRoom, NoText, TooMuch
from rowdam.notes import read_item
from rowdam.pipes import is_room
from rowdam.works import MOST_ROWS, ins_of, pipes_of, read_works, shown_works

MOST_ITEMS = 100


class Draft:
    def __init__(self):
        self.works = []
        self.rows = {}
        self.rooms = []

    def answer(self, order):
        if order[0] == "add":
            self.add_row(order[1])
        elif order[0] == "feed":
            self.feed_item(order[1], order[2])
        elif order[0] == "room":
            self.set_room(order[1], order[2])
        else:
            raise NoOrder("this comes behind the start")
        return "ok"

    def add_row(self, text):
        many = len(self.works)
        if many >= MOST_ROWS:
            raise TooMuch(f"a works has at most {MOST_ROWS} rows")
        if "\n" in text:
            raise NoText(many)
        above = shown_works(self.works) + "\n" if self.works else ""
        self.works = read_works(above + text)
        self.rooms.extend([1] * (len(pipes_of(self.works)) - len(self.rooms)))

    def feed_item(self, name, text):
        if name not in ins_of(self.works):
            raise NoIn(f"{name!r} is no name of an in")
        row = self.rows.get(name, [])
        if len(row) >= MOST_ITEMS:
            raise TooMuch(f"a row has at most {MOST_ITEMS} items")
        self.rows[name] = row + [read_item(text, len(row))]

    def set_room(self, pipe, room):
        if pipe >= len(self.rooms) or not is_room(room):
            raise NoRoom("no such pipe, or no such room")
        self.rooms[pipe] = room

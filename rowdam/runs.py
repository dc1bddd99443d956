"""What a desk is told from the start on: a lined machine that runs, and may go on as one of a widened works."""

from rowdam.errors import NoIn, NoMove, NoOrder, NoRoom, NoWide
from rowdam.lines import LinedDam
from rowdam.notes import show_things
from rowdam.pipes import is_room
from rowdam.plain import plain
from rowdam.shares import fold_saved, spread_saved, widened
from rowdam.works import ins_of, outs_of, pipes_of


def check_room(room):
    if not is_room(room):
        raise NoRoom("no such room")


class Run:
    def __init__(self, works, rows, rooms):
        self.dam = LinedDam(works, rows, rooms)
        self.rows = rows
        self.works = works
        self.narrow_works = works
        # The name and the number by which it is widened, where it is.
        self.wide = None

    def answer(self, order):
        word = order[0]
        if word == "moves":
            return str(len(self.dam.moves()))
        if word == "do":
            return self.do_at(order[1])
        if word == "rest":
            return str(self.dam.rest())
        if word == "line":
            return str(self.dam.call())
        if word == "fall":
            return str(self.dam.fall())
        if word == "pipe":
            return self.show_pipe(order[1])
        if word == "widen":
            return self.widen(order[1], order[2], order[3])
        if word == "narrow":
            return self.narrow(order[1])
        if word in ("told", "outside", "late", "plain"):
            return show_things(self.things_of(word, order[1]))
        raise NoOrder("this comes ahead of the start")

    def do_at(self, place):
        moves = self.dam.moves()
        if place >= len(moves):
            raise NoMove(f"there is no move at place {place}")
        self.dam.do(moves[place])
        return " ".join([str(word) for word in moves[place]])

    def show_pipe(self, pipe):
        if pipe >= len(pipes_of(self.works)):
            raise NoRoom("no such pipe")
        return " ".join([str(count) for count in self.dam.counts(pipe)])

    def things_of(self, word, name):
        if word == "late":
            return self.late_things(name)
        if word == "plain":
            return self.plain_things(name)
        if name not in outs_of(self.works):
            raise NoOrder(f"{name!r} is no name of an out")
        return self.dam.told(name) if word == "told" else self.dam.outside(name)

    def late_things(self, name):
        if name not in ins_of(self.works):
            raise NoIn(f"{name!r} is no name of an in")
        return self.dam.late(name)

    def plain_things(self, name):
        if name not in [row[1] for row in self.works]:
            raise NoOrder(f"{name!r} is no name of a row")
        draws = dict([(each, self.dam.drawn(each)) for each in ins_of(self.works)])
        return plain(self.works, self.rows, draws)[name][0]

    def widen(self, name, many, room):
        if self.wide is not None:
            raise NoOrder("it is widened already")
        works = widened(self.works, name, many)
        check_room(room)
        self.go_on(works, room, spread_saved(self.dam.saved(), self.works, name, many))
        self.wide = (name, many)
        return "ok"

    def narrow(self, room):
        if self.wide is None:
            raise NoWide("it is not widened")
        check_room(room)
        saved = fold_saved(self.dam.saved(), self.narrow_works, self.wide[0], self.wide[1])
        self.go_on(self.narrow_works, room, saved)
        self.wide = None
        return "ok"

    def go_on(self, works, room, saved):
        self.dam = LinedDam(works, self.rows, [room] * len(pipes_of(works)), saved)
        self.works = works

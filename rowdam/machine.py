"""The machine: a works that runs by single moves."""

from rowdam.building import station_of
from rowdam.errors import NoMove, NoRoom
from rowdam.pipes import Pipe
from rowdam.plain import check_rows
from rowdam.rows import read_row
from rowdam.sources import Source
from rowdam.things import is_whole
from rowdam.works import ins_of, pipes_of


def pipes_with(rooms, many):
    if len(rooms) != many:
        raise NoRoom(f"{many} pipes need as many rooms")
    return [Pipe(room) for room in rooms]


def is_move(x):
    # True and False would else be taken for the pipes 1 and 0.
    return isinstance(x, tuple) and len(x) == 2 and (isinstance(x[1], str) or is_whole(x[1]))


class Dam:
    # move_words, can_do, carry_out and station_takes are methods of their own for a machine that has more moves.

    def __init__(self, works, rows, rooms):
        check_rows(works, rows)
        self.links = pipes_of(works)
        self.pipes = pipes_with(rooms, len(self.links))
        self.rows = dict([(name, list(rows.get(name, []))) for name in ins_of(works)])
        self.names = [row[1] for row in works]
        self.parts = dict([(row[1], self.part_of(row)) for row in works])
        # An out has one as well, into which nothing ever goes.
        self.trays = dict([(name, []) for name in self.names])
        self.pipes_out = dict([(name, self.pipes_at(0, name)) for name in self.names])
        self.all_moves = self.moves_of(works)

    def part_of(self, row):
        return Source(self.rows[row[1]]) if row[0] == "in" else station_of(row)

    def pipes_at(self, place, name):
        # The place is one of (from, to, way).
        return [pipe for pipe, link in enumerate(self.links) if link[place] == name]

    def moves_of(self, works):
        # All that may ever be possible, in the order in which moves are told.
        found = []
        for row in works:
            found.extend([(word, row[1]) for word in self.move_words(row[0])])
        for pipe in range(len(self.links)):
            found.extend([("take", pipe), ("give", pipe)])
        return found

    def move_words(self, word):
        return ("draw", "tell") if word == "in" else ("tell",)

    def can_do(self, move):
        return self.is_possible(move)

    def is_possible(self, move):
        if move[0] == "draw":
            return not self.trays[move[1]] and not self.parts[move[1]].has_ended()
        if move[0] == "tell":
            return self.can_tell(move[1])
        if move[0] == "take":
            return not self.pipes[move[1]].is_empty() and not self.trays[self.links[move[1]][1]]
        return self.pipes[move[1]].owed > 0

    def can_tell(self, name):
        if not self.trays[name]:
            return False
        return all([self.pipes[pipe].rights > 0 for pipe in self.pipes_out[name]])

    def carry_out(self, move):
        self.make_move(move)

    def make_move(self, move):
        if move[0] == "draw":
            self.trays[move[1]].extend(self.parts[move[1]].draw())
        elif move[0] == "tell":
            self.tell_first(move[1])
        elif move[0] == "take":
            told = self.station_takes(move[1], self.pipes[move[1]].take())
            self.trays[self.links[move[1]][1]].extend(told)
        else:
            self.pipes[move[1]].give()

    def tell_first(self, name):
        item = self.trays[name].pop(0)
        for pipe in self.pipes_out[name]:
            self.pipes[pipe].put(item)

    def station_takes(self, pipe, item):
        return self.told_by_station(pipe, item)

    def told_by_station(self, pipe, item):
        link = self.links[pipe]
        return self.parts[link[1]].take_in(link[2], item)

    def moves(self):
        return [move for move in self.all_moves if self.can_do(move)]

    def do(self, move):
        if not is_move(move) or move not in self.all_moves or not self.can_do(move):
            raise NoMove(f"{move!r} is not possible")
        self.carry_out(move)

    def first_moves(self):
        # Unlike moves, this looks no further than needed.
        for move in self.all_moves:
            if self.can_do(move):
                return [move]
        return []

    def rest(self):
        many = 0
        found = self.first_moves()
        while found:
            self.carry_out(found[0])
            many += 1
            found = self.first_moves()
        return many

    def tray(self, name):
        return list(self.trays[name])

    def told(self, name):
        return self.state(name)[1]

    def state(self, name):
        return self.parts[name].state()

    def drawn(self, name):
        return self.state(name)[1][0]

    def late(self, name):
        return read_row(self.rows[name], self.drawn(name))[1]

    def inside(self, pipe):
        return self.pipes[pipe].inside()

    def counts(self, pipe):
        counted = self.pipes[pipe]
        return (counted.rights, len(counted.inside()), counted.owed)

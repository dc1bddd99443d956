"""The lined machine: lines are drawn through the works while it runs, and it may fall and go on from the last whole."""

from rowdam.machine import Dam
from rowdam.pipes import Pipe
from rowdam.states import copied_state
from rowdam.works import outs_of


class LinedDam(Dam):
    def __init__(self, works, rows, rooms, saved=None):
        Dam.__init__(self, works, rows, rooms)
        self.pipes_in = dict([(name, self.pipes_at(1, name)) for name in self.names])
        self.outs = outs_of(works)
        self.last_whole = 0
        first = self.all_states() if saved is None else saved
        self.whole_states = dict([(name, copied_state(first[name])) for name in self.names])
        self.go_back()

    def all_states(self):
        return dict([(name, self.state(name)) for name in self.names])

    def go_back(self):
        self.pipes = [Pipe(pipe.room) for pipe in self.pipes]
        for name in self.names:
            self.trays[name] = []
            self.parts[name].put_back(self.whole_states[name])
        self.stopped = [False] * len(self.pipes)
        self.last_called = self.last_whole
        # The last line that each in passed on.
        self.passed = dict([(name, self.last_whole) for name in self.rows])
        # From the number of each line that is not whole to the states that are saved for it so far.
        self.open_states = {}

    def move_words(self, word):
        return ("draw", "line", "tell") if word == "in" else ("tell",)

    def can_do(self, move):
        if move[0] == "line":
            return not self.trays[move[1]] and self.passed[move[1]] < self.last_called
        if move[0] == "take" and self.stopped[move[1]]:
            return False
        return self.is_possible(move)

    def carry_out(self, move):
        if move[0] == "line":
            self.pass_line(move[1])
        else:
            self.make_move(move)

    def pass_line(self, name):
        number = self.passed[name] + 1
        self.passed[name] = number
        self.save(name, number)
        self.trays[name].append(("line", number))

    def station_takes(self, pipe, item):
        if item[0] == "line":
            return self.take_line(pipe, item)
        return self.told_by_station(pipe, item)

    def take_line(self, pipe, line):
        name = self.links[pipe][1]
        self.stopped[pipe] = True
        if not all([self.stopped[each] for each in self.pipes_in[name]]):
            return []
        for each in self.pipes_in[name]:
            self.stopped[each] = False
        self.save(name, line[1])
        return [] if name in self.outs else [line]

    def save(self, name, number):
        states = self.open_states.setdefault(number, {})
        states[name] = self.state(name)
        if len(states) == len(self.names):
            self.last_whole = number
            self.whole_states = self.open_states.pop(number)

    def call(self):
        self.last_called += 1
        return self.last_called

    def called(self):
        return self.last_called

    def whole(self):
        return self.last_whole

    def fall(self):
        self.go_back()
        return self.last_whole

    def saved(self):
        return dict([(name, copied_state(self.whole_states[name])) for name in self.names])

    def outside(self, name):
        return list(self.whole_states[name][1])

    def held(self, pipe):
        return self.stopped[pipe]

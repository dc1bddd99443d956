"""Sources: they draw the row of an in, item by item."""

from rowdam.errors import Bare
from rowdam.things import LAST


class Source:
    def __init__(self, row):
        self.row = list(row)
        self.mark = 0
        self.draws = 0

    def has_ended(self):
        # The end is a draw of its own, behind the last item.
        return self.draws > len(self.row)

    def draw(self):
        if self.has_ended():
            raise Bare("the end was drawn")
        self.draws += 1
        if self.has_ended():
            return self.raise_mark(LAST)
        item = self.row[self.draws - 1]
        if item[0] == "mark":
            return self.raise_mark(item[1])
        return [item] if item[1] >= self.mark else []

    def raise_mark(self, mark):
        if mark <= self.mark:
            return []
        self.mark = mark
        return [("mark", mark)]

    def state(self):
        return ([self.mark], [self.draws])

    def put_back(self, state):
        self.mark = state[0][0]
        self.draws = state[1][0]

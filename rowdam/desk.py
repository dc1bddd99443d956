"""The desk: rows of text told, texts answered."""

from rowdam.drafts import Draft
from rowdam.errors import NoOrder
from rowdam.orders import read_order
from rowdam.runs import Run


class Desk:
    def __init__(self):
        self.draft = Draft()
        self.run = None

    def say(self, row):
        order = read_order(row)
        if self.run is not None:
            return self.run.answer(order)
        if order[0] == "start":
            return self.start()
        return self.draft.answer(order)

    def start(self):
        if not self.draft.works:
            raise NoOrder("the works has no row")
        self.run = Run(self.draft.works, self.draft.rows, self.draft.rooms)
        return "ok"

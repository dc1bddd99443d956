import random
import unittest

from helpers import mark, random_row, thing
from rowdam.errors import Bare
from rowdam.rows import read_row
from rowdam.sources import Source
from rowdam.things import LAST, MOST_TIME


class Sources(unittest.TestCase):
    def test_step_by_step(self):
        source = Source([
            thing(0), mark(0), thing(5, "b", 2), mark(4), thing(3), thing(4), mark(4), mark(2), mark(5), thing(4), thing(5),
        ])
        self.assertEqual(source.state(), ([0], [0]))
        told = [
            ([thing(0)], 0), ([], 0), ([thing(5, "b", 2)], 0), ([mark(4)], 4), ([], 4), ([thing(4)], 4), ([], 4), ([], 4),
            ([mark(5)], 5), ([], 5), ([thing(5)], 5), ([mark(LAST)], LAST),
        ]
        for draws, (items, so_far) in enumerate(told):
            self.assertEqual(source.draw(), items)
            self.assertEqual(source.state(), ([so_far], [draws + 1]))
        for again in range(2):
            self.assertRaises(Bare, source.draw)
            self.assertEqual(source.state(), ([LAST], [12]))

    def test_no_items(self):
        source = Source([])
        self.assertEqual(source.state(), ([0], [0]))
        self.assertEqual(source.draw(), [mark(LAST)])
        self.assertEqual(source.state(), ([LAST], [1]))
        self.assertRaises(Bare, source.draw)

    def test_the_greatest_mark_is_not_the_end(self):
        source = Source([mark(MOST_TIME), thing(MOST_TIME), thing(MOST_TIME - 1)])
        self.assertEqual([source.draw() for k in range(4)], [[mark(MOST_TIME)], [thing(MOST_TIME)], [], [mark(LAST)]])

    def test_as_the_row_is_read(self):
        chance = random.Random(9)
        for turn in range(60):
            row = random_row(chance, chance.randrange(15))
            source = Source(row)
            told = []
            for draws in range(len(row) + 1):
                on_time, late, so_far = read_row(row, draws)
                self.assertEqual(source.state(), ([so_far], [draws]))
                self.assertEqual([item[1:] for item in told if item[0] == "thing"], on_time)
                self.assertEqual(max([item[1] for item in told if item[0] == "mark"], default=0), so_far)
                told += source.draw()

    def test_put_back(self):
        chance = random.Random(10)
        for turn in range(30):
            row = random_row(chance, 8)
            for draws in range(len(row) + 2):
                source = Source(row)
                for k in range(draws):
                    source.draw()
                other = Source(row)
                for k in range(chance.randrange(len(row) + 2)):
                    other.draw()
                other.put_back(source.state())
                self.assertEqual(other.state(), source.state())
                for k in range(draws, len(row) + 1):
                    self.assertEqual(other.draw(), source.draw())
                    self.assertEqual(other.state(), source.state())
                self.assertRaises(Bare, other.draw)

    def test_what_is_handed_in_and_told_is_apart(self):
        row = [mark(3), thing(2), thing(4)]
        source = Source(row)
        row.clear()
        self.assertEqual(source.draw(), [mark(3)])
        state = source.state()
        self.assertEqual([type(part) for part in state], [list, list])
        state[0][0] = 99
        state[1][0] = 0
        self.assertEqual(source.state(), ([3], [1]))
        other = Source([mark(3), thing(2), thing(4)])
        handed_in = ([3], [1])
        other.put_back(handed_in)
        handed_in[0][0] = 99
        handed_in[1].clear()
        self.assertEqual(other.state(), ([3], [1]))
        told = source.draw()
        self.assertEqual(told, [])
        told.append(1)
        source.draw().clear()
        self.assertEqual(source.state(), ([3], [3]))

    def test_what_is_handed_in_stays(self):
        row = [mark(3), thing(2)]
        source = Source(row)
        source.draw()
        state = ([0], [0])
        source.put_back(state)
        source.draw()
        self.assertEqual((row, state), ([mark(3), thing(2)], ([0], [0])))


if __name__ == "__main__":
    unittest.main()

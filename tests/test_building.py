import random
import unittest

from helpers import MOST, check_goes_by_told_of, check_goes_on_when_put_back, check_states_are_apart
from helpers import mark, random_steps, row_of, take_all, thing
from rowdam.building import station_of
from rowdam.stations import Station
from rowdam.things import LAST

ROWS = [
    "keep k a < v 3", "keep k a not < t 9", "turn k a - t * 2 v", "share k a 0 2", "share k a 2 3", "pour k a b",
    "pour k a a a", "pour k a b c d e f g h", "fixed k a 1 sum", "fixed k a 5 count", "fixed k a 7 most",
    "fixed k a 4 least", "slide k a 10 4 sum", "slide k a 8 1 count", "slide k a 3 3 most", "slide k a 5 2 least",
    "gap k a 1 sum", "gap k a 3 count", "gap k a 6 most", "gap k a 4 least", "join k a b 4 - v w", "join k a a 0 + v w",
    "join k a b 9 + t * v w", "out k a",
]


def station(text):
    return station_of(row_of(text))


class Built(unittest.TestCase):
    def test_a_station_of_each_word_at_first(self):
        for text in ROWS:
            with self.subTest(text=text):
                found = station(text)
                self.assertIsInstance(found, Station)
                self.assertEqual((found.low(), found.state()), (0, ([0] * len(row_of(text)[2]), [])))

    def test_marks_by_each_way(self):
        for text in ROWS:
            ways = len(row_of(text)[2])
            found = station(text)
            is_out = text.startswith("out")
            with self.subTest(text=text):
                for way in range(ways - 1):
                    self.assertEqual(found.take_in(way, mark(5 + way)), [])
                    self.assertEqual(found.low(), 0)
                self.assertEqual(found.take_in(ways - 1, mark(3)), [] if is_out else [mark(3)])
                for time in [3, 2, 0]:
                    self.assertEqual(found.take_in(ways - 1, mark(time)), [])
                self.assertEqual(found.low(), 3)
                for way in range(ways - 1):
                    self.assertEqual(found.take_in(way, mark(LAST)), [])
                self.assertEqual(found.take_in(ways - 1, mark(LAST)), [] if is_out else [mark(LAST)])
                self.assertEqual((found.low(), found.state()), (LAST, ([LAST] * ways, [])))

    def test_each_kind_of_thing_told_at_once(self):
        self.assertEqual(station("keep k a < v 3").take_in(0, thing(4, "b", 2)), [thing(4, "b", 2)])
        self.assertEqual(station("keep k a < v 3").take_in(0, thing(4, "b", 3)), [])
        self.assertEqual(station("turn k a - t * 2 v").take_in(0, thing(4, "b", 3)), [thing(4, "b", -2)])
        self.assertEqual(station("turn k a * v v").take_in(0, thing(4, "b", MOST)), [thing(4, "b", MOST)])
        self.assertEqual(station("share k a 1 2").take_in(0, thing(4, "b", 3)), [thing(4, "b", 3)])
        self.assertEqual(station("share k a 0 2").take_in(0, thing(4, "b", 3)), [])
        self.assertEqual(station("pour k a b").take_in(1, thing(4, "b", 3)), [thing(4, "b", 3)])
        found = station("join k a b 4 - v w")
        self.assertEqual(found.take_in(1, thing(4, "b", 3)), [])
        self.assertEqual(found.take_in(0, thing(8, "b", 5)), [thing(8, "b", 2)])
        self.assertEqual(found.take_in(0, thing(9, "b", 5)), [])
        found = station("out k a")
        self.assertEqual(found.take_in(0, thing(4, "b", 3)), [])
        self.assertEqual(found.state(), ([0], [(4, "b", 3)]))

    def test_each_kind_kept_and_closed(self):
        found = station("fixed k a 5 sum")
        self.assertEqual(take_all(found, [thing(4, "b", 3), thing(1, "b", 2), thing(1, "a", 9)]), [])
        self.assertEqual(found.state(), ([0], [(5, "a", 9), (5, "b", 5)]))
        self.assertEqual(found.take_in(0, mark(5)), [thing(4, "a", 9), thing(4, "b", 5), mark(5)])
        found = station("slide k a 4 2 most")
        self.assertEqual(take_all(found, [thing(3, "b", 3), thing(4, "b", 2)]), [])
        self.assertEqual(found.state(), ([0], [(4, "b", 3), (6, "b", 3), (8, "b", 2)]))
        self.assertEqual(found.take_in(0, mark(6)), [thing(3, "b", 3), thing(5, "b", 3), mark(6)])
        self.assertEqual(found.state(), ([6], [(8, "b", 2)]))
        found = station("gap k a 4 count")
        self.assertEqual(take_all(found, [thing(3, "b", 3), thing(6, "b", 2)]), [])
        self.assertEqual(found.state(), ([0], [(3, 6, "b", 2)]))
        self.assertEqual(found.take_in(0, mark(10)), [thing(9, "b", 2), mark(10)])
        found = station("join k a b 4 - v w")
        take_all(found, [thing(3, "b", 3), mark(LAST)])
        self.assertEqual(found.state(), ([LAST, 0], [(0, 3, "b", 3)]))
        self.assertEqual(found.take_in(1, mark(7)), [mark(7)])
        self.assertEqual(found.state(), ([LAST, 7], [(0, 3, "b", 3)]))
        self.assertEqual(found.take_in(1, mark(8)), [mark(8)])
        self.assertEqual(found.state(), ([LAST, 8], []))

    def test_any_steps(self):
        chance = random.Random(8)
        for text in ROWS:
            row = row_of(text)
            for turn in range(6):
                steps = random_steps(chance, len(row[2]), 40, end=turn % 2 == 0)
                with self.subTest(text=text, turn=turn):
                    check_goes_by_told_of(self, row, station_of(row), steps)
                    check_goes_on_when_put_back(self, lambda: station_of(row), steps)
                    check_states_are_apart(self, lambda: station_of(row), steps[:20])

    def test_two_stations_of_one_row_are_apart(self):
        for text in ROWS:
            row = row_of(text)
            one, other = station_of(row), station_of(row)
            take_all(one, [thing(1), thing(2, "b"), mark(1)])
            self.assertEqual(other.state(), ([0] * len(row[2]), []))
            other.put_back(one.state())
            before = one.state()
            take_all(other, [thing(1), thing(2, "b"), mark(LAST)])
            self.assertEqual(one.state(), before)


if __name__ == "__main__":
    unittest.main()

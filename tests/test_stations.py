import random
import unittest

from helpers import MOST, check_goes_by_told_of, check_goes_on_when_put_back, check_states_are_apart
from helpers import mark, random_steps, row_of, take_all, thing
from rowdam.stations import (
    JoinStation, KeepStation, OutStation, PourStation, ShareStation, Station, TurnStation,
)
from rowdam.things import LAST, MOST_TIME

MADE = [
    (KeepStation, "keep k a < v 3"),
    (TurnStation, "turn k a - t * 2 v"),
    (ShareStation, "share k a 0 2"),
    (PourStation, "pour k a b"),
    (PourStation, "pour k a b c d e f g h"),
    (PourStation, "pour k a a"),
    (JoinStation, "join k a b 4 - v w"),
    (JoinStation, "join k a a 0 + v w"),
    (OutStation, "out k a"),
]


def made(kind, text):
    return kind(row_of(text))


class Marks(unittest.TestCase):
    def test_at_first(self):
        for kind, text in MADE:
            station = made(kind, text)
            self.assertIsInstance(station, Station)
            self.assertEqual(station.low(), 0)
            self.assertEqual(station.state(), ([0] * len(row_of(text)[2]), []))

    def test_one_way(self):
        station = made(KeepStation, "keep k a = 1 1")
        self.assertEqual(station.take_in(0, mark(0)), [])
        self.assertEqual(station.take_in(0, mark(5)), [mark(5)])
        self.assertEqual(station.low(), 5)
        for time in [5, 4, 0]:
            self.assertEqual(station.take_in(0, mark(time)), [])
            self.assertEqual((station.low(), station.state()), (5, ([5], [])))
        self.assertEqual(station.take_in(0, mark(6)), [mark(6)])
        self.assertEqual(station.take_in(0, mark(MOST_TIME)), [mark(MOST_TIME)])
        self.assertEqual(station.take_in(0, mark(LAST)), [mark(LAST)])
        self.assertEqual(station.take_in(0, mark(LAST)), [])
        self.assertEqual(station.low(), LAST)

    def test_two_ways(self):
        station = made(PourStation, "pour k a b")
        self.assertEqual(station.take_in(0, mark(5)), [])
        self.assertEqual((station.low(), station.state()), (0, ([5, 0], [])))
        self.assertEqual(station.take_in(1, mark(3)), [mark(3)])
        self.assertEqual(station.take_in(1, mark(3)), [])
        self.assertEqual(station.take_in(1, mark(7)), [mark(5)])
        self.assertEqual((station.low(), station.state()), (5, ([5, 7], [])))
        self.assertEqual(station.take_in(1, mark(6)), [])
        self.assertEqual(station.state(), ([5, 7], []))
        self.assertEqual(station.take_in(0, mark(LAST)), [mark(7)])
        self.assertEqual(station.take_in(1, mark(LAST)), [mark(LAST)])

    def test_eight_ways(self):
        station = made(PourStation, "pour k a b c d e f g h")
        for way in range(7):
            self.assertEqual(station.take_in(way, mark(10 + way)), [])
            self.assertEqual(station.low(), 0)
        self.assertEqual(station.take_in(7, mark(4)), [mark(4)])
        self.assertEqual(station.take_in(7, mark(99)), [mark(10)])
        self.assertEqual(station.take_in(0, mark(99)), [mark(11)])
        self.assertEqual(station.state(), ([99, 11, 12, 13, 14, 15, 16, 99], []))

    def test_an_out_tells_nothing(self):
        station = made(OutStation, "out k a")
        for time in [0, 3, 2, 3, MOST_TIME, LAST]:
            self.assertEqual(station.take_in(0, mark(time)), [])
        self.assertEqual((station.low(), station.state()), (LAST, ([LAST], [])))


class Things(unittest.TestCase):
    def test_keep(self):
        station = made(KeepStation, "keep k a < v t")
        self.assertEqual(station.take_in(0, thing(5, "ab", 4)), [thing(5, "ab", 4)])
        self.assertEqual(station.take_in(0, thing(5, "ab", 5)), [])
        self.assertEqual(station.take_in(0, thing(5, "ab", -4 * MOST)), [thing(5, "ab", -4 * MOST)])
        self.assertEqual(station.take_in(0, thing(5, "ab", 4)), [thing(5, "ab", 4)])
        self.assertEqual(station.take_in(0, thing(LAST - 1, "z", 0)), [thing(LAST - 1, "z", 0)])
        self.assertEqual(station.state(), ([0], []))

    def test_turn(self):
        station = made(TurnStation, "turn k a - t * 2 v")
        self.assertEqual(station.take_in(0, thing(5, "ab", 4)), [thing(5, "ab", -3)])
        self.assertEqual(station.take_in(0, thing(0, "c", -4)), [thing(0, "c", 8)])
        self.assertEqual(station.state(), ([0], []))

    def test_turn_is_held(self):
        station = made(TurnStation, "turn k a + v t")
        for time, value, told in [
            (0, MOST, MOST), (1, MOST, MOST), (1, MOST - 1, MOST), (1, MOST - 2, MOST - 1), (0, 3 * MOST, MOST),
            (0, -MOST, -MOST), (1, -MOST - 1, -MOST), (0, -MOST - 1, -MOST), (1, -MOST, 1 - MOST),
        ]:
            self.assertEqual(station.take_in(0, thing(time, "a", value)), [thing(time, "a", told)])
        station = made(TurnStation, "turn k a - * v v * v v")
        self.assertEqual(station.take_in(0, thing(0, "a", MOST)), [thing(0, "a", 0)])

    def test_share(self):
        for many in range(1, 9):
            for left in range(many):
                station = made(ShareStation, f"share k a {left} {many}")
                for key, number in [("a", 0), ("aa", 0), ("b", 1), ("z", 25), ("ba", 26), ("zzzzzzzz", 26**8 - 1)]:
                    told = [thing(1, key, 2)] if number % many == left else []
                    self.assertEqual(station.take_in(0, thing(1, key, 2)), told)
                self.assertEqual(station.state(), ([0], []))

    def test_pour(self):
        station = made(PourStation, "pour k a b a")
        for way in [2, 0, 1, 1]:
            self.assertEqual(station.take_in(way, thing(way, "b", 9 * MOST)), [thing(way, "b", 9 * MOST)])
        self.assertEqual(station.state(), ([0, 0, 0], []))

    def test_out(self):
        station = made(OutStation, "out k a")
        for item in [thing(5, "b", 3), mark(4), thing(4, "a", 9 * MOST), thing(5, "b", 3)]:
            self.assertEqual(station.take_in(0, item), [])
        self.assertEqual(station.state(), ([4], [(5, "b", 3), (4, "a", 9 * MOST), (5, "b", 3)]))


class Joins(unittest.TestCase):
    def test_both_ways_first(self):
        station = made(JoinStation, "join k a b 5 - v w")
        self.assertEqual(station.take_in(0, thing(10, "a", 7)), [])
        self.assertEqual(station.take_in(1, thing(12, "a", 3)), [thing(12, "a", 4)])
        station = made(JoinStation, "join k a b 5 - v w")
        self.assertEqual(station.take_in(1, thing(12, "a", 3)), [])
        self.assertEqual(station.take_in(0, thing(10, "a", 7)), [thing(12, "a", 4)])

    def test_span(self):
        for first_way in [0, 1]:
            for first, second, told in [
                (10, 15, [thing(15, "a", 2)]), (10, 16, []), (15, 10, [thing(15, "a", 2)]), (16, 10, []),
                (10, 10, [thing(10, "a", 2)]),
            ]:
                station = made(JoinStation, "join k a b 5 + v w")
                self.assertEqual(station.take_in(first_way, thing(first)), [])
                self.assertEqual(station.take_in(1 - first_way, thing(second)), told)

    def test_other_keys_and_the_same_way(self):
        station = made(JoinStation, "join k a b 5 + v w")
        for item in [thing(1, "a"), thing(1, "aa"), thing(2, "a")]:
            self.assertEqual(station.take_in(0, item), [])
        self.assertEqual(station.take_in(1, thing(1, "b")), [])
        self.assertEqual(station.take_in(1, thing(1, "aa")), [thing(1, "aa", 2)])

    def test_the_later_time_and_both_values(self):
        station = made(JoinStation, "join k a b 5 + t * 100 - v * 10 w")
        station.take_in(0, thing(4, "a", 1))
        self.assertEqual(station.take_in(1, thing(3, "a", 2)), [thing(4, "a", 4 + 100 * (1 - 20))])
        self.assertEqual(station.take_in(1, thing(6, "a", 2)), [thing(6, "a", 6 + 100 * (1 - 20))])

    def test_alike_things_and_the_order(self):
        for way in [0, 1]:
            station = made(JoinStation, "join k a b 5 + v w")
            kept = [thing(7, "a", 2), thing(5, "a", 9), thing(7, "a", 1), thing(6, "b", 4), thing(5, "a", 9), thing(4, "a", 0)]
            self.assertEqual(take_all(station, kept, way), [])
            told = [thing(6, "a", 10), thing(6, "a", 19), thing(6, "a", 19), thing(7, "a", 11), thing(7, "a", 12)]
            self.assertEqual(station.take_in(1 - way, thing(6, "a", 10)), told)
            self.assertEqual(station.take_in(1 - way, thing(6, "a", 10)), told)

    def test_the_order_is_that_of_kept_things_not_of_what_is_told(self):
        station = made(JoinStation, "join k a b 9 - v w")
        take_all(station, [thing(3, "a", 5), thing(3, "a", 6), thing(1, "a", 7)], 1)
        self.assertEqual(
            station.take_in(0, thing(9, "a", 0)), [thing(9, "a", -7), thing(9, "a", -5), thing(9, "a", -6)],
        )

    def test_values_are_held(self):
        station = made(JoinStation, "join k a b 0 + v w")
        station.take_in(0, thing(1, "a", MOST))
        self.assertEqual(station.take_in(1, thing(1, "a", 1)), [thing(1, "a", MOST)])
        self.assertEqual(station.take_in(1, thing(1, "a", -1)), [thing(1, "a", MOST - 1)])
        station = made(JoinStation, "join k a b 0 + v w")
        station.take_in(1, thing(1, "a", -MOST))
        self.assertEqual(station.take_in(0, thing(1, "a", -5)), [thing(1, "a", -MOST)])

    def test_what_is_kept_no_longer_at_a_low(self):
        station = made(JoinStation, "join k a b 5 + v w")
        take_all(station, [thing(1), thing(4), thing(5), thing(9, "b")], 0)
        take_all(station, [thing(2, "c"), thing(5, "c"), thing(6, "c")], 1)
        self.assertEqual(station.take_in(0, mark(10)), [])
        self.assertEqual(len(station.state()[1]), 7)
        self.assertEqual(station.take_in(1, mark(10)), [mark(10)])
        self.assertEqual(station.state(), (
            [10, 10], [(0, 5, "a", 1), (0, 9, "b", 1), (1, 5, "c", 1), (1, 6, "c", 1)],
        ))
        self.assertEqual(station.take_in(1, mark(11)), [])
        self.assertEqual(station.take_in(0, mark(11)), [mark(11)])
        self.assertEqual(station.state()[1], [(0, 9, "b", 1), (1, 6, "c", 1)])
        take_all(station, [mark(LAST)], 0)
        take_all(station, [mark(LAST)], 1)
        self.assertEqual(station.state(), ([LAST, LAST], []))

    def test_one_that_lies_behind_the_mark_of_its_own_way_still_finds_partners(self):
        station = made(JoinStation, "join k a b 5 + v w")
        station.take_in(0, thing(3))
        station.take_in(0, mark(90))
        self.assertEqual(station.take_in(1, thing(8)), [thing(8, "a", 2)])


class States(unittest.TestCase):
    def test_the_order_of_what_is_kept(self):
        station = made(JoinStation, "join k a b 5 + v w")
        take_all(station, [thing(4, "b", 1), thing(4, "a", 3), thing(4, "a", 2), thing(3, "z", 9)], 1)
        take_all(station, [thing(8, "c", 1), thing(4, "q", 2), thing(8, "c", 1)], 0)
        self.assertEqual(station.state(), ([0, 0], [
            (0, 4, "q", 2), (0, 8, "c", 1), (0, 8, "c", 1), (1, 3, "z", 9), (1, 4, "a", 2), (1, 4, "a", 3), (1, 4, "b", 1),
        ]))

    def test_put_back(self):
        station = made(JoinStation, "join k a b 5 - v w")
        station.put_back(([3, 4], [(0, 3, "a", 7), (1, 4, "a", 1)]))
        self.assertEqual(station.low(), 3)
        self.assertEqual(station.take_in(1, thing(5, "a", 2)), [thing(5, "a", 5)])
        self.assertEqual(station.take_in(0, thing(5, "a", 2)), [thing(5, "a", 1), thing(5, "a", 0)])
        station = made(OutStation, "out k a")
        station.put_back(([3], [(9, "a", 7), (4, "a", 1)]))
        station.take_in(0, thing(5, "a", 2))
        self.assertEqual(station.state(), ([3], [(9, "a", 7), (4, "a", 1), (5, "a", 2)]))

    def test_any_steps(self):
        chance = random.Random(5)
        for kind, text in MADE:
            row = row_of(text)
            for turn in range(15):
                steps = random_steps(chance, len(row[2]), 40, end=turn % 2 == 0)
                with self.subTest(text=text, turn=turn):
                    check_goes_by_told_of(self, row, kind(row), steps)
                    check_goes_on_when_put_back(self, lambda: kind(row), steps)
                    check_states_are_apart(self, lambda: kind(row), steps[:20])

    def test_two_stations_of_one_row_are_apart(self):
        for kind, text in MADE:
            one, other = made(kind, text), made(kind, text)
            take_all(one, [thing(1), mark(1)])
            self.assertEqual(other.state(), ([0] * len(row_of(text)[2]), []))


if __name__ == "__main__":
    unittest.main()

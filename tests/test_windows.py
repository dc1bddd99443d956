import random
import unittest

from helpers import MOST, check_goes_by_told_of, check_goes_on_when_put_back, check_states_are_apart
from helpers import mark, random_steps, row_of, take_all, thing
from rowdam.stations import Station
from rowdam.things import LAST
from rowdam.windows import GapStation, WindowStation

FOLDS = ["sum", "count", "most", "least"]
MADE = [(WindowStation, f"fixed k a 5 {fold}") for fold in FOLDS]
MADE += [(WindowStation, f"slide k a {windows} {fold}") for fold in FOLDS for windows in ["10 4", "8 1", "3 3", "5 2"]]
MADE += [(GapStation, f"gap k a {gap} {fold}") for fold in FOLDS for gap in [1, 3, 8]]


def window(text):
    return WindowStation(row_of(text))


def gap(text):
    return GapStation(row_of(text))


class Windows(unittest.TestCase):
    def test_one_window_of_a_thing(self):
        station = window("fixed k a 5 sum")
        self.assertEqual(station.take_in(0, thing(4, "a", 3)), [])
        self.assertEqual(station.take_in(0, thing(0, "a", 4)), [])
        self.assertEqual(station.take_in(0, thing(5, "a", 9)), [])
        self.assertEqual(station.state(), ([0], [(5, "a", 7), (10, "a", 9)]))

    def test_several_windows_of_a_thing(self):
        station = window("slide k a 10 4 sum")
        self.assertEqual(station.take_in(0, thing(9, "a", 3)), [])
        self.assertEqual(station.state(), ([0], [(10, "a", 3), (14, "a", 3), (18, "a", 3)]))
        self.assertEqual(station.take_in(0, thing(1, "a", 5)), [])
        self.assertEqual(station.state()[1], [(2, "a", 5), (6, "a", 5), (10, "a", 8), (14, "a", 3), (18, "a", 3)])

    def test_all_folds(self):
        for fold, value in [("sum", -8), ("count", 4), ("most", 5), ("least", -8)]:
            for text in [f"fixed k a 5 {fold}", f"slide k a 5 5 {fold}"]:
                station = window(text)
                take_all(station, [thing(1, "a", 3), thing(2, "a", -8), thing(2, "a", -8), thing(0, "a", 5)])
                self.assertEqual(station.take_in(0, mark(5)), [thing(4, "a", value), mark(5)])

    def test_an_end_at_the_low_and_one_above_it(self):
        station = window("fixed k a 5 count")
        take_all(station, [thing(4), thing(5), thing(10)])
        self.assertEqual(station.take_in(0, mark(4)), [mark(4)])
        self.assertEqual(station.take_in(0, mark(5)), [thing(4, "a", 1), mark(5)])
        self.assertEqual(station.state(), ([5], [(10, "a", 1), (15, "a", 1)]))
        self.assertEqual(station.take_in(0, mark(9)), [mark(9)])
        self.assertEqual(station.take_in(0, mark(14)), [thing(9, "a", 1), mark(14)])
        self.assertEqual(station.take_in(0, mark(LAST)), [thing(14, "a", 1), mark(LAST)])
        self.assertEqual(station.state(), ([LAST], []))

    def test_the_order_of_ends_and_keys(self):
        station = window("fixed k a 5 sum")
        for item in [thing(7, "b", 1), thing(7, "ab", 2), thing(3, "z", 3), thing(7, "b", 9), thing(3, "b", 4), thing(6, "aa", 5)]:
            self.assertEqual(station.take_in(0, item), [])
        self.assertEqual(station.take_in(0, mark(10)), [
            thing(4, "b", 4), thing(4, "z", 3), thing(9, "aa", 5), thing(9, "ab", 2), thing(9, "b", 10), mark(10),
        ])

    def test_nothing_is_kept_that_was_told(self):
        station = window("slide k a 4 2 sum")
        take_all(station, [thing(3, "a", 5), thing(4, "a", 7)])
        self.assertEqual(station.take_in(0, mark(4)), [thing(3, "a", 5), mark(4)])
        self.assertEqual(station.state(), ([4], [(6, "a", 12), (8, "a", 7)]))
        self.assertEqual(station.take_in(0, mark(4)), [])
        self.assertEqual(station.take_in(0, thing(5, "a", 1)), [])
        self.assertEqual(station.take_in(0, mark(8)), [thing(5, "a", 13), thing(7, "a", 8), mark(8)])
        self.assertEqual(station.state(), ([8], []))

    def test_nothing_is_held(self):
        station = window("fixed k a 5 sum")
        take_all(station, [thing(1, "a", MOST), thing(1, "a", MOST), thing(1, "b", -5 * MOST)])
        self.assertEqual(station.take_in(0, mark(5)), [thing(4, "a", 2 * MOST), thing(4, "b", -5 * MOST), mark(5)])

    def test_large_times(self):
        station = window("fixed k a 1000000000000 sum")
        take_all(station, [thing(10**12), thing(3 * 10**13)])
        self.assertEqual(station.take_in(0, mark(10**12)), [mark(10**12)])
        self.assertEqual(station.take_in(0, mark(LAST)), [
            thing(2 * 10**12 - 1), thing(31 * 10**12 - 1), mark(LAST),
        ])


class Gaps(unittest.TestCase):
    def spans(self, items, text="gap k a 5 sum"):
        station = gap(text)
        for item in items:
            self.assertEqual(station.take_in(0, item), [])
        return station.state()[1]

    def test_spans_that_stay_apart_and_that_meet(self):
        self.assertEqual(self.spans([thing(10), thing(15)]), [(10, 10, "a", 1), (15, 15, "a", 1)])
        self.assertEqual(self.spans([thing(15), thing(10)]), [(10, 10, "a", 1), (15, 15, "a", 1)])
        self.assertEqual(self.spans([thing(10), thing(14)]), [(10, 14, "a", 2)])
        self.assertEqual(self.spans([thing(14), thing(10)]), [(10, 14, "a", 2)])
        self.assertEqual(self.spans([thing(10), thing(10)], "gap k a 1 sum"), [(10, 10, "a", 2)])
        self.assertEqual(self.spans([thing(10), thing(11)], "gap k a 1 sum"), [(10, 10, "a", 1), (11, 11, "a", 1)])

    def test_within_a_span(self):
        self.assertEqual(self.spans([thing(10), thing(14), thing(12, "a", 5)]), [(10, 14, "a", 7)])
        self.assertEqual(self.spans([thing(10), thing(14), thing(18), thing(11)]), [(10, 18, "a", 4)])

    def test_a_thing_that_makes_one_of_two_spans(self):
        items = [thing(10, "a", 1), thing(18, "a", 2), thing(14, "b", 9), thing(30, "a", 4)]
        self.assertEqual(self.spans(items), [(10, 10, "a", 1), (14, 14, "b", 9), (18, 18, "a", 2), (30, 30, "a", 4)])
        self.assertEqual(self.spans(items + [thing(14, "a", 8)]), [
            (10, 18, "a", 11), (14, 14, "b", 9), (30, 30, "a", 4),
        ])
        self.assertEqual(len(self.spans(items + [thing(13, "a", 8)])), 4)

    def test_in_any_order_of_times(self):
        chance = random.Random(6)
        items = [thing(time, "a", time) for time in [3, 7, 7, 11, 16, 25, 29, 40]]
        for turn in range(30):
            chance.shuffle(items)
            self.assertEqual(self.spans(items), [
                (3, 11, "a", 28), (16, 16, "a", 16), (25, 29, "a", 54), (40, 40, "a", 40),
            ])

    def test_all_folds(self):
        items = [thing(1, "a", 3), thing(4, "a", -8), thing(2, "a", -8), thing(0, "a", 5)]
        for fold, value in [("sum", -8), ("count", 4), ("most", 5), ("least", -8)]:
            station = gap(f"gap k a 3 {fold}")
            take_all(station, items)
            self.assertEqual(station.take_in(0, mark(6)), [mark(6)])
            self.assertEqual(station.take_in(0, mark(7)), [thing(6, "a", value), mark(7)])

    def test_nothing_is_held(self):
        self.assertEqual(self.spans([thing(1, "a", MOST), thing(1, "a", MOST)]), [(1, 1, "a", 2 * MOST)])

    def test_a_span_at_the_low_and_one_above_it(self):
        station = gap("gap k a 5 count")
        take_all(station, [thing(0), thing(4), thing(9)])
        self.assertEqual(station.take_in(0, mark(8)), [mark(8)])
        self.assertEqual(station.take_in(0, mark(9)), [thing(8, "a", 2), mark(9)])
        self.assertEqual(station.state(), ([9], [(9, 9, "a", 1)]))
        self.assertEqual(station.take_in(0, thing(13)), [])
        self.assertEqual(station.take_in(0, mark(17)), [mark(17)])
        self.assertEqual(station.take_in(0, mark(LAST)), [thing(17, "a", 2), mark(LAST)])
        self.assertEqual(station.state(), ([LAST], []))

    def test_the_order_of_times_and_keys(self):
        station = gap("gap k a 5 sum")
        take_all(station, [thing(7, "b", 1), thing(7, "ab", 2), thing(3, "z", 3), thing(0, "c", 4), thing(3, "c", 4), thing(9, "a", 5)])
        self.assertEqual(station.take_in(0, mark(13)), [
            thing(7, "c", 8), thing(7, "z", 3), thing(11, "ab", 2), thing(11, "b", 1), mark(13),
        ])
        self.assertEqual(station.state(), ([13], [(9, 9, "a", 5)]))


class States(unittest.TestCase):
    def test_at_first(self):
        for kind, text in MADE:
            station = kind(row_of(text))
            self.assertIsInstance(station, Station)
            self.assertEqual((station.low(), station.state()), (0, ([0], [])))

    def test_the_order_of_what_is_kept(self):
        station = window("fixed k a 5 sum")
        take_all(station, [thing(9, "b", 1), thing(9, "ab", 5), thing(2, "z", 7)])
        self.assertEqual(station.state(), ([0], [(5, "z", 7), (10, "ab", 5), (10, "b", 1)]))
        station = gap("gap k a 3 sum")
        take_all(station, [thing(9, "b", 1), thing(9, "a", 5), thing(2, "z", 7), thing(11, "b", 2), thing(2, "y", 7)])
        self.assertEqual(station.state(), ([0], [(2, 2, "y", 7), (2, 2, "z", 7), (9, 9, "a", 5), (9, 11, "b", 3)]))

    def test_put_back(self):
        station = window("fixed k a 5 sum")
        station.put_back(([6], [(10, "a", 4), (15, "b", 1)]))
        station.take_in(0, thing(7, "a", 3))
        self.assertEqual(station.take_in(0, mark(10)), [thing(9, "a", 7), mark(10)])
        station = gap("gap k a 3 sum")
        station.put_back(([6], [(4, 6, "a", 4), (9, 9, "a", 1)]))
        station.take_in(0, thing(8, "a", 3))
        self.assertEqual(station.state(), ([6], [(4, 9, "a", 8)]))

    def test_any_steps(self):
        chance = random.Random(7)
        for kind, text in MADE:
            row = row_of(text)
            for turn in range(6):
                steps = random_steps(chance, 1, 40, end=turn % 2 == 0)
                with self.subTest(text=text, turn=turn):
                    check_goes_by_told_of(self, row, kind(row), steps)
                    check_goes_on_when_put_back(self, lambda: kind(row), steps)
                    check_states_are_apart(self, lambda: kind(row), steps[:20])

    def test_two_stations_of_one_row_are_apart(self):
        for kind, text in MADE:
            one, other = kind(row_of(text)), kind(row_of(text))
            take_all(one, [thing(1), mark(1)])
            self.assertEqual(other.state(), ([0], []))


if __name__ == "__main__":
    unittest.main()

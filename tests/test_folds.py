import copy
import random
import unittest

from rowdam.folds import chains, ends_of, first_of, folded, merged

FOLDS = ["sum", "count", "most", "least"]
OWN = {"sum": sum, "count": len, "most": max, "least": min}
VALUES = [[0], [5], [-5], [3, 4], [4, 3], [-3, -4], [-1, 1], [7, 7, 7], [10**60, 10**60], [-10**70, 3], [1, -2, 3, -4, 5]]


class Folds(unittest.TestCase):
    def test_first_of(self):
        for value in [0, 1, 7, -7, 10**60, -10**60, 10**90]:
            self.assertEqual(first_of("count", value), 1)
            for fold in ["sum", "most", "least"]:
                self.assertEqual(first_of(fold, value), value)

    def test_merged(self):
        for one, other in [(0, 0), (3, 4), (4, 3), (-3, 4), (-3, -4), (10**60, 10**60), (-10**60, -10**60)]:
            with self.subTest(one=one, other=other):
                self.assertEqual(merged("sum", one, other), one + other)
                self.assertEqual(merged("count", one, other), one + other)
                self.assertEqual(merged("most", one, other), max(one, other))
                self.assertEqual(merged("least", one, other), min(one, other))

    def test_folded(self):
        for values in VALUES:
            for fold in FOLDS:
                with self.subTest(values=values, fold=fold):
                    self.assertEqual(folded(fold, values), OWN[fold](values))

    def test_nothing_is_held(self):
        self.assertEqual(folded("sum", [10**60] * 3), 3 * 10**60)
        self.assertEqual(folded("sum", [-10**60] * 3), -3 * 10**60)
        self.assertEqual(folded("most", [10**61]), 10**61)
        self.assertEqual(folded("least", [-10**61, 0]), -10**61)

    def test_the_same_by_any_cut_into_parts(self):
        for values in VALUES:
            for fold in FOLDS:
                for cut in range(1, len(values)):
                    parts = merged(fold, folded(fold, values[:cut]), folded(fold, values[cut:]))
                    self.assertEqual(parts, folded(fold, values))
                by_one = first_of(fold, values[0])
                for value in values[1:]:
                    by_one = merged(fold, first_of(fold, value), by_one)
                self.assertEqual(by_one, folded(fold, values))

    def test_what_is_handed_in_stays(self):
        values = [3, 1, 2]
        for fold in FOLDS:
            folded(fold, values)
        self.assertEqual(values, [3, 1, 2])


class Ends(unittest.TestCase):
    def test_the_documents_own(self):
        self.assertEqual(ends_of(10, 4, 9), [10, 14, 18])
        self.assertEqual(ends_of(10, 4, 1), [2, 6, 10])

    def test_times_0_and_below_a_step(self):
        self.assertEqual(ends_of(10, 4, 0), [2, 6, 10])
        self.assertEqual(ends_of(10, 4, 2), [6, 10])
        self.assertEqual(ends_of(10, 4, 3), [6, 10])
        self.assertEqual(ends_of(8, 1, 0), [1, 2, 3, 4, 5, 6, 7, 8])
        self.assertEqual(ends_of(1, 1, 0), [1])

    def test_width_and_step_alike(self):
        for time, end in [(0, 5), (4, 5), (5, 10), (9, 10), (10, 15)]:
            self.assertEqual(ends_of(5, 5, time), [end])

    def test_large_times(self):
        self.assertEqual(ends_of(10**12, 10**12, 10**12), [2 * 10**12])
        self.assertEqual(ends_of(10**12, 10**12, 10**12 - 1), [10**12])
        self.assertEqual(ends_of(3, 1, 10**14), [10**14 + 1, 10**14 + 2, 10**14 + 3])
        self.assertEqual(ends_of(10**12, 10**12 // 8, 0), [k * (10**12 // 8) for k in range(1, 9)])

    def test_all_windows_and_these_alone(self):
        for width in range(1, 13):
            for step in range(1, width + 1):
                for time in range(0, 30):
                    starts = [k * step for k in range(-30, 31) if k * step <= time < k * step + width]
                    found = ends_of(width, step, time)
                    self.assertEqual(found, [start + width for start in starts], (width, step, time))

    def test_a_new_list_each_time(self):
        ends_of(10, 4, 9).clear()
        self.assertEqual(ends_of(10, 4, 9), [10, 14, 18])


class Chains(unittest.TestCase):
    def times(self, times, gap):
        return [[thing[0] for thing in chain] for chain in chains([(time, "a", 1) for time in times], gap)]

    def test_none_and_one(self):
        self.assertEqual(chains([], 3), [])
        self.assertEqual(chains([(4, "a", 7)], 3), [[(4, "a", 7)]])

    def test_distances_about_the_gap(self):
        self.assertEqual(self.times([10, 14], 5), [[10, 14]])
        self.assertEqual(self.times([10, 15], 5), [[10], [15]])
        self.assertEqual(self.times([10, 16], 5), [[10], [16]])
        self.assertEqual(self.times([0, 10**12 - 1], 10**12), [[0, 10**12 - 1]])
        self.assertEqual(self.times([0, 10**12], 10**12), [[0], [10**12]])

    def test_from_thing_to_thing_not_from_the_first(self):
        self.assertEqual(self.times([0, 4, 8, 12, 17, 21, 30], 5), [[0, 4, 8, 12], [17, 21], [30]])

    def test_alike_times(self):
        self.assertEqual(self.times([3, 3, 3], 1), [[3, 3, 3]])
        self.assertEqual(self.times([3, 3, 4, 4], 1), [[3, 3], [4, 4]])
        self.assertEqual(chains([(3, "a", 1), (3, "a", 2)], 1), [[(3, "a", 1), (3, "a", 2)]])

    def test_in_order_each_thing_once(self):
        chance = random.Random(2)
        for turn in range(100):
            things = sorted((chance.randrange(40), "a", chance.randrange(3)) for k in range(chance.randrange(12)))
            gap = chance.randrange(1, 8)
            found = chains(things, gap)
            self.assertEqual([thing for chain in found for thing in chain], things)
            for chain in found:
                self.assertTrue(all(two[0] - one[0] < gap for one, two in zip(chain, chain[1:])))
            for one, two in zip(found, found[1:]):
                self.assertGreaterEqual(two[0][0] - one[-1][0], gap)

    def test_what_is_handed_in_stays_and_what_is_told_is_new(self):
        things = [(1, "a", 1), (2, "a", 1), (9, "a", 1)]
        before = copy.deepcopy(things)
        found = chains(things, 3)
        found[0].clear()
        found.clear()
        self.assertEqual(things, before)
        self.assertEqual(chains(things, 3), [[(1, "a", 1), (2, "a", 1)], [(9, "a", 1)]])


if __name__ == "__main__":
    unittest.main()

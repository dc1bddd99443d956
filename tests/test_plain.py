import copy
import random
import unittest

from rowdam.errors import NoIn, NoItem, TooMuch
from rowdam.plain import check_rows, plain, told_of
from rowdam.rows import read_row
from rowdam.things import LAST
from rowdam.works import read_works

MOST = 10**60
SOME = [(1, "a", 5), (1, "a", 5), (3, "b", -2), (7, "a", 0), (7, "ba", 9), (12, "c", 4)]


def row_of(text):
    """The row that a text tells, with a and b as its FROMs."""
    return read_works("in a\nin b\n" + text)[2]


def things(*times):
    return [(time, "a", 1) for time in times]


def fed(*items):
    return [("thing",) + item if len(item) == 3 else ("mark",) + item for item in items]


class Checked(unittest.TestCase):
    works = read_works("in b\nin a\njoin c a b 0 v\nout o c")

    def test_rows_that_are_let_by(self):
        for rows in [{}, {"a": []}, {"b": fed((3,))}, {"a": fed((1, "a", 1)), "b": fed((1, "a", 1), (2,))}]:
            with self.subTest(rows=rows):
                self.assertIsNone(check_rows(self.works, rows))
        self.assertIsNone(check_rows(self.works, {"a": fed((1,)) * 20, "b": fed((1,)) * 100}))

    def test_no_in(self):
        for name in ["x", "c", "o", "", "A", None, 3]:
            with self.subTest(name=name):
                self.assertRaises(NoIn, check_rows, self.works, {name: []})

    def test_no_item(self):
        for row, at in [([None], 0), (fed((1,), (2,)) + [("mark", -1)], 2), ([("thing", 1, "A", 1)], 0)]:
            with self.assertRaises(NoItem) as taken:
                check_rows(self.works, {"a": row})
            self.assertEqual(taken.exception.at, at)

    def test_the_first_in_in_the_works_order(self):
        for rows in [{"a": [None], "b": [("mark", 1), None]}, {"b": [("mark", 1), None], "a": [None]}]:
            with self.assertRaises(NoItem) as taken:
                check_rows(self.works, rows)
            self.assertEqual(taken.exception.at, 1)

    def test_too_much(self):
        self.assertRaises(TooMuch, check_rows, self.works, {"a": fed((1,)) * 20, "b": fed((1,)) * 101})
        self.assertIsNone(check_rows(self.works, {"a": fed((1,)) * 100}))

    def test_no_in_goes_ahead_of_no_item_ahead_of_too_much(self):
        many = fed((1,)) * 100
        self.assertRaises(NoIn, check_rows, self.works, {"a": [None], "x": [], "b": many})
        self.assertRaises(NoIn, check_rows, self.works, {"a": many, "b": many, "c": []})
        self.assertRaises(NoItem, check_rows, self.works, {"a": many, "b": many + [None]})
        self.assertRaises(NoItem, check_rows, self.works, {"a": many + [None], "b": many})
        self.assertRaises(TooMuch, check_rows, self.works, {"a": many, "b": many})

    def test_what_is_handed_in_stays(self):
        rows = {"a": fed((1, "a", 1), (2,))}
        before = copy.deepcopy(rows)
        check_rows(self.works, rows)
        self.assertEqual(rows, before)


class Told(unittest.TestCase):
    def test_keep(self):
        self.assertEqual(told_of(row_of("keep c a < v 3"), [SOME], 5), [(3, "b", -2), (7, "a", 0)])
        self.assertEqual(told_of(row_of("keep c a < t 4"), [SOME[::-1]], 0), SOME[:3])
        self.assertEqual(told_of(row_of("keep c a < t 0"), [SOME], LAST), [])
        self.assertEqual(told_of(row_of("keep c a = 1 1"), [SOME], LAST), SOME)

    def test_turn(self):
        self.assertEqual(
            told_of(row_of("turn c a - t * 2 v"), [SOME], 0),
            [(1, "a", -9), (1, "a", -9), (3, "b", 7), (7, "a", 7), (7, "ba", -11), (12, "c", 4)],
        )
        self.assertEqual(told_of(row_of("turn c a - 0 v"), [[(1, "a", 1), (1, "a", 2)]], 0), [(1, "a", -2), (1, "a", -1)])

    def test_turn_holds_the_whole_value_alone(self):
        row = row_of("turn c a + v 1")
        feed = [(1, "a", MOST - 1), (2, "a", MOST), (3, "a", MOST * 9), (4, "a", -MOST - 1), (5, "a", -MOST - 2)]
        told = [(1, "a", MOST), (2, "a", MOST), (3, "a", MOST), (4, "a", -MOST), (5, "a", -MOST)]
        self.assertEqual(told_of(row, [feed], 0), told)
        row = row_of("turn c a - * v v * v v")
        self.assertEqual(told_of(row, [[(1, "a", MOST)]], 0), [(1, "a", 0)])

    def test_share(self):
        feed = [(1, key, 1) for key in ["a", "aa", "ab", "b", "ba", "c", "z", "zz"]]
        for many in range(1, 9):
            found = []
            for left in range(many):
                told = told_of(row_of(f"share c a {left} {many}"), [feed], 0)
                found.extend(told)
                numbers = {"a": 0, "aa": 0, "ab": 1, "b": 1, "ba": 26, "c": 2, "z": 25, "zz": 675}
                self.assertEqual(told, [thing for thing in feed if numbers[thing[1]] % many == left])
            self.assertEqual(sorted(found), feed)

    def test_pour(self):
        self.assertEqual(told_of(row_of("pour c a b"), [SOME[3:], SOME[:3]], 0), SOME)
        self.assertEqual(told_of(row_of("pour c a b a"), [things(3, 1), things(2), things(9)], 0), things(1, 2, 3, 9))
        self.assertEqual(told_of(row_of("pour c a b"), [[], []], 0), [])

    def test_out(self):
        self.assertEqual(told_of(row_of("out c a"), [SOME[::-1]], 3), SOME)

    def test_fixed(self):
        feed = [(0, "a", 3), (4, "a", -1), (5, "a", 7), (4, "b", 2), (11, "a", 1)]
        told = [(4, "a", 2), (4, "b", 2), (9, "a", 7), (14, "a", 1)]
        row = row_of("fixed c a 5 sum")
        self.assertEqual(told_of(row, [feed[::-1]], LAST), told)
        self.assertEqual(told_of(row, [feed], 15), told)
        self.assertEqual(told_of(row, [feed], 14), told[:3])
        self.assertEqual(told_of(row, [feed], 10), told[:3])
        self.assertEqual(told_of(row, [feed], 9), told[:2])
        self.assertEqual(told_of(row, [feed], 5), told[:2])
        self.assertEqual(told_of(row, [feed], 4), [])
        self.assertEqual(told_of(row, [feed], 0), [])

    def test_folds_of_windows_and_chains(self):
        feed = [(1, "a", 3), (2, "a", -8), (2, "a", -8), (3, "a", 5)]
        for fold, value in [("sum", -8), ("count", 4), ("most", 5), ("least", -8)]:
            self.assertEqual(told_of(row_of(f"fixed c a 5 {fold}"), [feed], LAST), [(4, "a", value)])
            self.assertEqual(told_of(row_of(f"slide c a 5 5 {fold}"), [feed], LAST), [(4, "a", value)])
            self.assertEqual(told_of(row_of(f"gap c a 5 {fold}"), [feed], LAST), [(7, "a", value)])

    def test_nothing_of_a_fold_is_held(self):
        feed = [(1, "a", MOST), (1, "a", MOST)]
        self.assertEqual(told_of(row_of("fixed c a 5 sum"), [feed], LAST), [(4, "a", 2 * MOST)])
        self.assertEqual(told_of(row_of("gap c a 5 sum"), [feed], LAST), [(5, "a", 2 * MOST)])

    def test_slide(self):
        row = row_of("slide c a 10 4 count")
        self.assertEqual(told_of(row, [things(9)], LAST), [(9, "a", 1), (13, "a", 1), (17, "a", 1)])
        self.assertEqual(told_of(row, [things(9)], 14), [(9, "a", 1), (13, "a", 1)])
        self.assertEqual(told_of(row, [things(9)], 13), [(9, "a", 1)])
        self.assertEqual(told_of(row, [things(9)], 9), [])
        # Windows that begin below 0.
        self.assertEqual(told_of(row, [things(1)], LAST), [(1, "a", 1), (5, "a", 1), (9, "a", 1)])
        self.assertEqual(told_of(row, [things(1, 0)], 2), [(1, "a", 2)])
        self.assertEqual(told_of(row, [things(0, 2, 9)], 10), [(1, "a", 1), (5, "a", 2), (9, "a", 3)])

    def test_gap(self):
        feed = [(0, "a", 1), (4, "a", 2), (9, "a", 4), (4, "b", 8)]
        row = row_of("gap c a 5 sum")
        told = [(8, "a", 3), (8, "b", 8), (13, "a", 4)]
        self.assertEqual(told_of(row, [feed[::-1]], LAST), told)
        self.assertEqual(told_of(row, [feed], 14), told)
        self.assertEqual(told_of(row, [feed], 13), told[:2])
        self.assertEqual(told_of(row, [feed], 9), told[:2])
        self.assertEqual(told_of(row, [feed], 8), [])

    def test_join(self):
        row = row_of("join c a b 5 - v w")
        self.assertEqual(told_of(row, [[(10, "a", 7)], [(15, "a", 3)]], 0), [(15, "a", 4)])
        self.assertEqual(told_of(row, [[(15, "a", 7)], [(10, "a", 3)]], 0), [(15, "a", 4)])
        self.assertEqual(told_of(row, [[(10, "a", 7)], [(16, "a", 3)]], 0), [])
        self.assertEqual(told_of(row, [[(16, "a", 7)], [(10, "a", 3)]], 0), [])
        self.assertEqual(told_of(row, [[(10, "a", 7)], [(10, "b", 3), (10, "aa", 3)]], 0), [])
        self.assertEqual(told_of(row, [[(10, "a", 7)], []], 0), [])

    def test_join_at_span_0_and_at_the_greatest(self):
        row = row_of("join c a b 0 + v w")
        self.assertEqual(told_of(row, [things(1, 2), things(2, 3)], 0), [(2, "a", 2)])
        row = row_of("join c a b 1000000000000 + v w")
        self.assertEqual(told_of(row, [things(0), things(10**12, 10**12 + 1)], 0), [(10**12, "a", 2)])

    def test_join_reads_the_later_time_and_both_values(self):
        row = row_of("join c a b 5 + t * 100 - v * 10 w")
        self.assertEqual(told_of(row, [[(3, "a", 1)], [(4, "a", 2)]], 0), [(4, "a", 4 + 100 * (1 - 20))])
        self.assertEqual(told_of(row, [[(4, "a", 1)], [(3, "a", 2)]], 0), [(4, "a", 4 + 100 * (1 - 20))])

    def test_join_of_alike_things(self):
        row = row_of("join c a b 5 + v w")
        self.assertEqual(told_of(row, [things(1, 1), things(2, 2, 2)], 0), [(2, "a", 2)] * 6)

    def test_join_holds_the_whole_value(self):
        feeds = [[(1, "a", MOST)], [(1, "a", MOST)]]
        self.assertEqual(told_of(row_of("join c a b 0 + v w"), feeds, 0), [(1, "a", MOST)])
        self.assertEqual(told_of(row_of("join c a b 0 - - 0 v w"), feeds, 0), [(1, "a", -MOST)])
        self.assertEqual(told_of(row_of("join c a b 0 - * v w * v w"), feeds, 0), [(1, "a", 0)])

    def test_a_name_twice_with_unlike_feeds(self):
        self.assertEqual(told_of(row_of("pour c a a"), [things(1), things(2)], 0), things(1, 2))
        self.assertEqual(told_of(row_of("join c a a 9 - v w"), [[(1, "a", 9)], [(2, "a", 4)]], 0), [(2, "a", 5)])

    def test_the_mark_matters_to_windows_and_chains_alone(self):
        for text in ["keep c a = 1 1", "turn c a v", "share c a 0 1", "pour c a a", "join c a a 9 v", "out c a"]:
            row = row_of(text)
            feeds = [SOME] * len(row[2])
            with self.subTest(text=text):
                self.assertEqual(told_of(row, feeds, 0), told_of(row, feeds, LAST))

    def test_feeds_in_any_order(self):
        chance = random.Random(3)
        for text in [
            "keep c a < v 3", "turn c a - t v", "share c a 0 2", "pour c a b", "fixed c a 4 sum", "slide c a 7 3 most",
            "gap c a 3 least", "join c a b 4 - v w", "out c a",
        ]:
            row = row_of(text)
            feeds = [list(SOME) for name in row[2]]
            told = told_of(row, feeds, 10)
            self.assertEqual(told, sorted(told))
            for turn in range(10):
                for feed in feeds:
                    chance.shuffle(feed)
                before = copy.deepcopy(feeds)
                self.assertEqual(told_of(row, feeds, 10), told)
                self.assertEqual(feeds, before)
            told_of(row, feeds, 10).clear()
            self.assertEqual(told_of(row, feeds, 10), told)


ALL_KINDS = """in a
in b
keep k a < v 5
turn u k + v t
share s a 0 2
pour p a b
pour q a a
fixed f p 5 sum
slide l p 10 4 count
gap g p 3 most
join j a b 4 - v w
join d a a 2 + v w
out o f
out r j"""


def windows_by_hand(feed, width, step, fold, mark):
    told = []
    for key in {thing[1] for thing in feed}:
        for start in range(-width // step * step, 100, step):
            values = [v for t, k, v in feed if k == key and start <= t < start + width]
            if values and start + width <= mark:
                told.append((start + width - 1, key, fold(values)))
    return sorted(told)


def spans_by_hand(feed, gap, fold, mark):
    told = []
    for key in {thing[1] for thing in feed}:
        times = sorted({t for t, k, v in feed if k == key})
        groups = []
        for time in times:
            if groups and time - groups[-1][-1] < gap:
                groups[-1].append(time)
            else:
                groups.append([time])
        for group in groups:
            if group[-1] + gap <= mark:
                told.append((group[-1] + gap - 1, key, fold([v for t, k, v in feed if k == key and t in group])))
    return sorted(told)


class Plain(unittest.TestCase):
    works = read_works(ALL_KINDS)
    rows = {
        "a": fed((2, "a", 4), (3,), (1, "a", 9), (4, "b", 7), (2, "a", 4), (5,), (12, "a", -3), (5, "c", 1), (11,)),
        "b": fed((0, "a", 1), (6, "b", 2), (6, "b", 2), (7,), (6, "a", 8), (8, "b", 0)),
    }

    def expected(self, draws):
        """The things of each row by the words of the document, from what read_row tells."""
        a, late, mark_a = read_row(self.rows["a"], draws.get("a"))
        b, late, mark_b = read_row(self.rows["b"], draws.get("b"))
        low = min(mark_a, mark_b)
        kept = [thing for thing in a if thing[2] < 5]
        told = {"a": (a, mark_a), "b": (b, mark_b), "k": (kept, mark_a)}
        told["u"] = ([(t, k, v + t) for t, k, v in kept], mark_a)
        told["s"] = ([thing for thing in a if thing[1] in "ac"], mark_a)
        told["p"] = (a + b, low)
        told["q"] = (a + a, mark_a)
        told["f"] = (windows_by_hand(a + b, 5, 5, sum, low), low)
        told["l"] = (windows_by_hand(a + b, 10, 4, len, low), low)
        told["g"] = (spans_by_hand(a + b, 3, max, low), low)
        told["j"] = ([
            (max(one[0], two[0]), one[1], one[2] - two[2])
            for one in a for two in b if one[1] == two[1] and abs(one[0] - two[0]) <= 4
        ], low)
        told["d"] = ([
            (max(one[0], two[0]), one[1], one[2] + two[2])
            for one in a for two in a if one[1] == two[1] and abs(one[0] - two[0]) <= 2
        ], mark_a)
        told["o"] = told["f"]
        told["r"] = told["j"]
        return {name: (sorted(found), mark) for name, (found, mark) in told.items()}

    def test_to_the_end_where_nothing_is_told(self):
        expected = self.expected({})
        self.assertEqual(plain(self.works, self.rows), expected)
        self.assertEqual(plain(self.works, self.rows, None), expected)
        self.assertEqual(plain(self.works, self.rows, {}), expected)
        self.assertEqual(plain(self.works, self.rows, {"a": 10, "b": 7}), expected)
        self.assertTrue(all(mark == LAST for told, mark in expected.values()))
        self.assertTrue(all(told for told, mark in expected.values()))

    def test_by_any_numbers_of_draws(self):
        for many_a in range(11):
            self.assertEqual(plain(self.works, self.rows, {"a": many_a}), self.expected({"a": many_a}))
            for many_b in range(8):
                draws = {"a": many_a, "b": many_b}
                with self.subTest(draws=draws):
                    self.assertEqual(plain(self.works, self.rows, draws), self.expected(draws))

    def test_no_draw_tells_nothing(self):
        told = plain(self.works, self.rows, {"a": 0, "b": 0})
        self.assertEqual(told, {row[1]: ([], 0) for row in self.works})

    def test_the_rows_in_the_works_order(self):
        self.assertEqual(list(plain(self.works, self.rows)), [row[1] for row in self.works])

    def test_an_in_that_is_not_named_has_no_items(self):
        told = plain(self.works, {"b": self.rows["b"]})
        self.assertEqual(told["a"], ([], LAST))
        self.assertEqual(told["j"], ([], LAST))
        self.assertEqual(told["b"][0], [(0, "a", 1), (6, "b", 2), (6, "b", 2), (8, "b", 0)])
        self.assertEqual(plain(self.works, {}, {"a": 0})["p"], ([], 0))

    def test_late_things_are_not_told(self):
        told = plain(self.works, self.rows)["a"][0]
        self.assertNotIn((1, "a", 9), told)
        self.assertNotIn((2, "a", 9), told)
        self.assertEqual(told.count((2, "a", 4)), 1)

    def test_windows_upon_windows(self):
        works = read_works("in a\nfixed f a 2 sum\nfixed g f 4 count\ngap h g 3 sum\nout o h")
        rows = {"a": fed((0, "a", 1), (3, "a", 2), (5, "a", 3), (4,), (9,))}
        self.assertEqual(plain(works, rows, {"a": 4})["g"], ([(3, "a", 2)], 4))
        self.assertEqual(plain(works, rows, {"a": 5})["f"], ([(1, "a", 1), (3, "a", 2), (5, "a", 3)], 9))
        self.assertEqual(plain(works, rows, {"a": 5})["g"], ([(3, "a", 2), (7, "a", 1)], 9))
        self.assertEqual(plain(works, rows, {"a": 5})["o"], ([(5, "a", 2)], 9))
        self.assertEqual(plain(works, rows)["o"], ([(5, "a", 2), (9, "a", 1)], LAST))

    def test_times_and_values_beyond_those_of_items(self):
        works = read_works("in a\nfixed f a 1000000000000 sum\nfixed g f 1000000000000 sum\nout o g")
        rows = {"a": fed((10**12, "a", MOST), (10**12, "a", MOST))}
        self.assertEqual(plain(works, rows)["g"], ([(2 * 10**12 - 1, "a", 2 * MOST)], LAST))

    def test_what_is_handed_in_stays_and_what_is_told_is_new(self):
        works = copy.deepcopy(self.works)
        rows = copy.deepcopy(self.rows)
        draws = {"a": 4}
        told = plain(works, rows, draws)
        self.assertEqual((works, rows, draws), (self.works, self.rows, {"a": 4}))
        lists = [found for found, mark in told.values()]
        self.assertEqual(len({id(found) for found in lists}), len(lists))
        for found in lists:
            found.append(None)
        told.clear()
        self.assertEqual(plain(works, rows, draws), self.expected(draws))


if __name__ == "__main__":
    unittest.main()

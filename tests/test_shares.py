import copy
import random
import unittest

from helpers import random_row, random_rooms, random_works_and_rows, sorted_outs
from rowdam.errors import NoWide, TooMuch
from rowdam.lines import LinedDam
from rowdam.plain import check_rows, plain
from rowdam.shares import fold_saved, spread_saved, widened
from rowdam.works import ins_of, outs_of, pipes_of, read_works, shown_works

WIDE = [
    "keep k p < v 3", "turn k p - t * 2 v", "fixed k p 5 sum", "fixed k p 3 count", "slide k p 10 4 sum",
    "slide k p 3 1 most", "gap k p 4 least", "gap k p 2 sum", "join k p a 4 - v w", "join k p p 3 + v w",
]
ABOVE = "in a\nin b\npour p a b\n"
BELOW = "\nturn u k + v 1\npour z k b\nout o k\nout q u\nout r z"


def made_text(row, many):
    """The rows that stand in the place of one, in words put together by hand."""
    words = row.split(" ")
    lines = []
    for k in range(many):
        lines.append(f"share k{k}l {words[2]} {k} {many}")
        if words[0] == "join":
            lines.append(f"share k{k}r {words[3]} {k} {many}")
            lines.append(" ".join(["join", f"k{k}", f"k{k}l", f"k{k}r"] + words[4:]))
        else:
            lines.append(" ".join([words[0], f"k{k}", f"k{k}l"] + words[3:]))
    lines.append("pour k " + " ".join(f"k{k}" for k in range(many)))
    return "\n".join(lines)


class Widened(unittest.TestCase):
    def test_each_word_by_each_number(self):
        for row in WIDE:
            for many in range(2, 9):
                works = read_works(ABOVE + row + BELOW)
                with self.subTest(row=row, many=many):
                    wide = widened(works, "k", many)
                    self.assertEqual(shown_works(wide), ABOVE + made_text(row, many) + BELOW)
                    self.assertEqual(read_works(shown_works(wide)), wide)

    def test_a_row_written_out(self):
        works = read_works("in a\njoin p a a 5 + v w\nout o p")
        self.assertEqual(shown_works(widened(works, "p", 2)), "\n".join([
            "in a", "share p0l a 0 2", "share p0r a 0 2", "join p0 p0l p0r 5 + v w", "share p1l a 1 2",
            "share p1r a 1 2", "join p1 p1l p1r 5 + v w", "pour p p0 p1", "out o p",
        ]))
        works = read_works("in a\nfixed f a 10 sum")
        self.assertEqual(widened(works, "f", 2), [
            ("in", "a", (), ()), ("share", "f0l", ("a",), ("0", "2")), ("fixed", "f0", ("f0l",), ("10", "sum")),
            ("share", "f1l", ("a",), ("1", "2")), ("fixed", "f1", ("f1l",), ("10", "sum")), ("pour", "f", ("f0", "f1"), ()),
        ])

    def refused(self, works, name, many):
        self.assertRaises(NoWide, widened, works, name, many)
        for saved in [None, {}, {"a": None}]:
            self.assertRaises(NoWide, fold_saved, saved, works, name, many)
            self.assertRaises(NoWide, spread_saved, saved, works, name, many)

    def test_no_such_row_and_other_words(self):
        works = read_works("in a\nin b\nshare s a 0 2\npour p a b\nkeep k a = 1 1\nout o k")
        for name in ["x", "", "K", "k0", "a", "s", "p", "o"]:
            with self.subTest(name=name):
                self.refused(works, name, 2)
        self.assertEqual(len(widened(works, "k", 2)), 10)

    def test_no_such_number(self):
        works = read_works("in a\nkeep k a = 1 1")
        for many in [1, 0, -1, 9, 10**20, True, False, None, "2", "", [], [2], (2,), {}, {2: 2}, 2.0]:
            with self.subTest(many=many):
                self.refused(works, "k", many)

    def test_made_names_that_stand_already(self):
        for row in WIDE:
            for taken in ["k0", "k1", "k0l", "k1l", "k0r", "k1r", "k2", "k2l", "k0x", "k00"]:
                due = taken in ["k0", "k1", "k0l", "k1l"] or (row.startswith("join") and taken in ["k0r", "k1r"])
                for text in [ABOVE + row + f"\nout {taken} k", f"in {taken}\n" + ABOVE + row]:
                    with self.subTest(row=row, taken=taken):
                        if due:
                            self.refused(read_works(text), "k", 2)
                        else:
                            self.assertEqual(len(widened(read_works(text), "k", 2)), 11 if row.startswith("join") else 9)

    def test_the_last_made_name(self):
        works = read_works("in k7l\nkeep k k7l = 1 1")
        self.assertEqual(len(widened(works, "k", 7)), 16)
        self.refused(works, "k", 8)

    def test_names_of_more_than_twelve_signs(self):
        for name, fits in [("abcdefghij", True), ("abcdefghijk", False), ("abcdefghijkl", False)]:
            for row in [f"keep {name} a = 1 1", f"join {name} a a 0 v"]:
                works = read_works("in a\n" + row)
                if fits:
                    self.assertEqual(widened(works, name, 2)[1][1], name + "0l")
                else:
                    self.refused(works, name, 2)

    def test_forty_rows_and_one_more(self):
        for row, many, more in [("keep k a = 1 1", 2, 4), ("gap k a 3 sum", 8, 16), ("join k a a 0 v", 8, 24)]:
            for rows, fits in [(40 - more, True), (41 - more, False), (40, False)]:
                works = read_works("in a\n" + row + "".join(f"\nout o{k} k" for k in range(rows - 2)))
                with self.subTest(row=row, rows=rows):
                    self.assertEqual(len(works), rows)
                    if fits:
                        self.assertEqual(len(widened(works, "k", many)), 40)
                    else:
                        self.refused(works, "k", many)

    def test_what_is_handed_in_stays_and_what_is_told_is_new(self):
        works = read_works(ABOVE + WIDE[0] + BELOW)
        before = list(works)
        wide = widened(works, "k", 3)
        self.assertEqual(works, before)
        again = list(wide)
        wide.clear()
        self.assertEqual(widened(works, "k", 3), again)

    def test_it_tells_what_the_narrow_one_tells(self):
        chance = random.Random(18)
        for row in WIDE:
            for many in [2, 3, 8]:
                works = read_works(ABOVE + row + BELOW)
                wide = widened(works, "k", many)
                rows = {"a": random_row(chance, 7), "b": random_row(chance, 7)}
                draws = {"a": chance.randrange(10), "b": chance.randrange(10)}
                for upto in [None, draws]:
                    narrow_read, wide_read = plain(works, rows, upto), plain(wide, rows, upto)
                    for name in narrow_read:
                        self.assertEqual(wide_read[name], narrow_read[name])
                made = LinedDam(wide, rows, random_rooms(chance, wide))
                while made.moves():
                    made.do(chance.choice(made.moves()))
                for name in outs_of(works):
                    self.assertEqual(sorted(made.told(name)), plain(works, rows)[name][0])

    def test_flows_are_greater(self):
        works = read_works("in a\njoin k a a 0 v\nout o k")
        rows = {"a": [("mark", 1)] * 40}
        self.assertIsNone(check_rows(works, rows))
        self.assertRaises(TooMuch, check_rows, widened(works, "k", 2), rows)


class Saved(unittest.TestCase):
    def test_folded(self):
        works = read_works("in a\nslide k a 4 2 sum\nout o k")
        wide = {
            "a": ([3], [9]), "k0l": ([3], []), "k0": ([3], [(4, "a", 1), (6, "c", 2)]), "k1l": ([3], []),
            "k1": ([3], [(4, "b", 5), (6, "b", 2)]), "k": ([3, 3], []), "o": ([3], [(1, "z", 1), (0, "a", 2)]),
        }
        self.assertEqual(fold_saved(wide, works, "k", 2), {
            "a": ([3], [9]), "k": ([3], [(4, "a", 1), (4, "b", 5), (6, "b", 2), (6, "c", 2)]),
            "o": ([3], [(1, "z", 1), (0, "a", 2)]),
        })

    def test_spread(self):
        works = read_works("in a\nin b\njoin k a b 4 v\nout o k")
        narrow = {
            "a": ([3], [9]), "b": ([7], [2]), "k": ([3, 7], [(0, 5, "a", 1), (0, 5, "b", 2), (0, 6, "ba", 3), (1, 8, "d", 4)]),
            "o": ([3], [(1, "z", 1)]),
        }
        spread = spread_saved(narrow, works, "k", 3)
        self.assertEqual(spread, {
            "a": ([3], [9]), "b": ([7], [2]), "o": ([3], [(1, "z", 1)]), "k": ([3, 3, 3], []),
            "k0l": ([3], []), "k1l": ([3], []), "k2l": ([3], []), "k0r": ([7], []), "k1r": ([7], []), "k2r": ([7], []),
            "k0": ([3, 7], [(0, 5, "a", 1), (1, 8, "d", 4)]), "k1": ([3, 7], [(0, 5, "b", 2)]), "k2": ([3, 7], [(0, 6, "ba", 3)]),
        })
        self.assertEqual(list(spread), [row[1] for row in widened(works, "k", 3)])

    def test_the_least_of_the_marks_is_the_pours(self):
        works = read_works("in a\nin b\njoin k a b 4 v\nout o k")
        narrow = {"a": ([8], [9]), "b": ([7], [2]), "k": ([8, 7], []), "o": ([7], [])}
        self.assertEqual(spread_saved(narrow, works, "k", 2)["k"], ([7, 7], []))

    def test_spread_of_each_word(self):
        for row, kept, share in [
            ("keep k a = 1 1", [], []), ("turn k a v", [], []),
            ("fixed k a 5 sum", [(5, "a", 1), (5, "b", 2), (10, "d", 1)], [(5, "b", 2), (10, "d", 1)]),
            ("slide k a 5 5 sum", [(5, "a", 1), (5, "b", 2), (10, "d", 1)], [(5, "b", 2), (10, "d", 1)]),
            ("gap k a 5 sum", [(1, 2, "b", 2), (1, 3, "a", 1), (4, 4, "d", 1)], [(1, 2, "b", 2), (4, 4, "d", 1)]),
        ]:
            works = read_works("in a\n" + row)
            narrow = {"a": ([1], [1]), "k": ([1], kept)}
            spread = spread_saved(narrow, works, "k", 2)
            self.assertEqual(spread["k1"], ([1], share))
            self.assertEqual(spread["k0"], ([1], [each for each in kept if each not in share]))
            self.assertEqual((spread["k0l"], spread["k1l"], spread["k"]), (([1], []), ([1], []), ([1, 1], [])))
            self.assertEqual(fold_saved(spread, works, "k", 2), narrow)

    def test_new_dicts_of_new_lists(self):
        works = read_works("in a\nfixed k a 5 sum\nout o k")
        narrow = {"a": ([1], [1]), "k": ([1], [(5, "a", 1), (5, "b", 2)]), "o": ([1], [(0, "a", 7)])}
        before = copy.deepcopy(narrow)
        for again in range(2):
            spread = spread_saved(narrow, works, "k", 2)
            self.assertEqual(narrow, before)
            kept = copy.deepcopy(spread)
            folded = fold_saved(spread, works, "k", 2)
            self.assertEqual((folded, spread), (before, kept))
            for told, other, other_before in [(spread, folded, before), (folded, spread, {})]:
                parts = [part for state in told.values() for part in state]
                self.assertEqual(len({id(part) for part in parts}), len(parts))
                self.assertTrue(all(type(state) is tuple and len(state) == 2 for state in told.values()))
                for part in parts:
                    part.append(99)
                told.clear()
                self.assertEqual(other, other_before)
            self.assertEqual(narrow, before)

    def wide_run(self, chance, works, rows, many):
        made = LinedDam(works, rows, random_rooms(chance, works))
        for step in range(many):
            if chance.random() < 0.08 and made.called() - made.whole() < 4:
                made.call()
            if made.moves():
                made.do(chance.choice(made.moves()))
        return made

    def test_a_machine_goes_on_from_either(self):
        chance = random.Random(19)
        for row in WIDE:
            for turn in range(8):
                many = chance.choice([2, 3, 5])
                works = read_works(ABOVE + row + BELOW)
                wide = widened(works, "k", many)
                rows = {"a": random_row(chance, 7), "b": random_row(chance, 7)}
                with self.subTest(row=row, turn=turn):
                    saved = self.wide_run(chance, works, rows, 150).saved()
                    spread = spread_saved(saved, works, "k", many)
                    self.assertEqual(fold_saved(spread, works, "k", many), saved)
                    self.goes_on(chance, works, wide, rows, many, spread)

    def goes_on(self, chance, works, wide, rows, many, spread):
        made = LinedDam(wide, rows, random_rooms(chance, wide), spread)
        for step in range(120):
            if chance.random() < 0.08 and made.called() - made.whole() < 4:
                made.call()
            if made.moves():
                made.do(chance.choice(made.moves()))
        saved = made.saved()
        folded = fold_saved(saved, works, "k", many)
        draws = {name: folded[name][1][0] for name in ins_of(works)}
        # What the narrow one saves at the same numbers of draws.
        narrow = LinedDam(works, rows, random_rooms(chance, works))
        while True:
            found = [move for move in narrow.moves() if move[0] != "draw" or narrow.drawn(move[1]) < draws[move[1]]]
            if not found:
                break
            narrow.do(chance.choice(found))
        states = {row[1]: narrow.state(row[1]) for row in works}
        self.assertEqual(sorted_outs(works, folded), sorted_outs(works, states))
        last = LinedDam(works, rows, [1] * len(pipes_of(works)), folded)
        last.rest()
        for name in outs_of(works):
            self.assertEqual(sorted(last.told(name)), plain(works, rows)[name][0])
        made.rest()
        for name in outs_of(works):
            self.assertEqual(sorted(made.told(name)), plain(works, rows)[name][0])

    def test_any_works(self):
        chance = random.Random(20)
        done = 0
        for turn in range(120):
            works, rows = random_works_and_rows(chance)
            for row in works:
                many = chance.randrange(2, 5)
                try:
                    wide = widened(works, row[1], many)
                    check_rows(wide, rows)
                except (NoWide, TooMuch):
                    continue
                saved = self.wide_run(chance, works, rows, 60).saved()
                spread = spread_saved(saved, works, row[1], many)
                self.assertEqual(fold_saved(spread, works, row[1], many), saved)
                made = LinedDam(wide, rows, random_rooms(chance, wide), spread)
                made.rest()
                for name in outs_of(works):
                    self.assertEqual(sorted(made.told(name)), plain(works, rows)[name][0])
                done += 1
        self.assertGreater(done, 100)


if __name__ == "__main__":
    unittest.main()

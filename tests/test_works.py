import copy
import unittest

from rowdam.errors import DamError, NoName, NoText, TooMuch
from rowdam.works import flows, ins_of, outs_of, pipes_of, read_works, shown_works

MOST = 10**12
ABOVE = "in a\nin b\nout o a"

GOOD = [
    "in c", "in a1", "in z9z9z9z9z9z9", "in abcdefghijkl",
    "keep c a < t 5", "keep c a not = v 0", "keep c a and < t 5 or = v 1 < -3 v", "keep in a = 1 1", "keep keep a = 1 1",
    "turn c a v", "turn c a - t * 2 v", "turn c a 0", "turn c a -99999999999999999999",
    "share c a 0 1", "share c a 0 8", "share c a 7 8", "share c a 1 2",
    "pour c a b", "pour c a a", "pour c a b a b a b a b",
    "fixed c a 1 sum", "fixed c a 1000000000000 count", "fixed c a 5 most", "fixed c a 5 least",
    "slide c a 1 1 sum", "slide c a 10 4 count", "slide c a 8 1 most", "slide c a 16 2 least", "slide c a 5 5 sum",
    "slide c a 1000000000000 125000000000 sum", "slide c a 1000000000000 1000000000000 sum",
    "gap c a 1 sum", "gap c a 1000000000000 count", "gap c a 3 most", "gap c a 3 least",
    "join c a b 0 v", "join c a b 5 + v w", "join c a a 1000000000000 most t w",
    "out c a", "out c b",
]
BAD = [
    "", " ", "c", "in", "in ", " in c", "in c ", "in  c", "in c d", "in\tc", "in c\t", "IN c", "In c", "row c a", "x",
    "in C", "in 1c", "in 9", "in cD", "in c_d", "in c-d", "in abcdefghijklm", "in \u00e4", "in c\u0661", "in c.",
    "keep", "keep c", "keep c a", "keep c a ", "keep c < t 5", "keep c a v", "keep c a < t", "keep c a < t 5 6",
    "keep c a < t w", "keep c a < t 05", "keep c A < t 5", "keep C a < t 5", "keep c  < t 5", "keep c a  < t 5",
    "keep c a < t 5 ", "keep c abcdefghijklm < t 5",
    "turn", "turn c", "turn c a", "turn c a w", "turn c a + v", "turn c a v v", "turn c a < t v", "turn c a +1",
    "turn c a 100000000000000000000", "turn c a ", "turn c a v ",
    "share", "share c a", "share c a 0", "share c a 1 1", "share c a 0 0", "share c a 0 9", "share c a 8 9",
    "share c a 2 2", "share c a 8 8", "share c a -1 2", "share c a 0 -1", "share c a 00 2", "share c a 0 02",
    "share c a 0 1 2", "share c a x 2", "share c a 0 x", "share c a a 0 1", "share c a 0 1 ",
    "pour", "pour c", "pour c a", "pour c a b a b a b a b a", "pour c a B", "pour c a  b", "pour c a b ", "pour c a 1b",
    "fixed", "fixed c a", "fixed c a 5", "fixed c a sum", "fixed c a 0 sum", "fixed c a 1000000000001 sum",
    "fixed c a 05 sum", "fixed c a -5 sum", "fixed c a 5 mean", "fixed c a 5 Sum", "fixed c a 5 ", "fixed c a 5 5 sum",
    "fixed c a 5 sum sum", "fixed c a 5 sum ", "fixed c a b 5 sum", "fixed c a 5 sumcount",
    "slide", "slide c a", "slide c a 5 sum", "slide c a 5 5", "slide c a 0 0 sum", "slide c a 5 0 sum",
    "slide c a 5 6 sum", "slide c a 9 1 sum", "slide c a 17 2 sum", "slide c a 1000000000001 1000000000001 sum",
    "slide c a 1000000000000 124999999999 sum", "slide c a 10 4 middle", "slide c a 10 4 4 sum", "slide c a 10 -4 sum",
    "slide c a 10 04 sum", "slide c a x 4 sum", "slide c a 10 x sum", "slide c a 10 4 sum ", "slide c a 5 5 first",
    "gap", "gap c a", "gap c a 5", "gap c a 0 sum", "gap c a 1000000000001 sum", "gap c a -1 sum", "gap c a 5 x",
    "gap c a 5 5 sum", "gap c a 01 sum",
    "join", "join c a", "join c a b", "join c a b 5", "join c a b v", "join c a b 1000000000001 v", "join c a b -1 v",
    "join c a b 00 v", "join c a b 5 v w", "join c a b 5 + v", "join c a b 5 < v w", "join c a 5 v", "join c a b b 5 v",
    "join c a b 5 x", "join c a b 5 v ", "join c a b 5 ",
    "out", "out c", "out c ", "out c a b", "out c a ", "out c A", "out C a", "out c a 1",
]


class Read(unittest.TestCase):
    def refused(self, kind, text):
        with self.assertRaises(kind, msg=repr(text)) as taken:
            read_works(text)
        self.assertIs(type(taken.exception), kind)
        return taken.exception.at

    def test_the_documents_own(self):
        self.assertEqual(
            read_works("in a\nin b\njoin p a b 5 + v w"),
            [("in", "a", (), ()), ("in", "b", (), ()), ("join", "p", ("a", "b"), ("5", "+", "v", "w"))],
        )

    def test_each_form(self):
        text = "in a\nkeep b a not < t 5\nturn c b - t * 2 v\nshare d c 1 3\npour e a b c\nfixed f e 10 sum\n" \
            "slide g e 10 4 most\ngap h e 7 least\njoin i e e 5 + v w\nout j i"
        self.assertEqual(read_works(text), [
            ("in", "a", (), ()),
            ("keep", "b", ("a",), ("not", "<", "t", "5")),
            ("turn", "c", ("b",), ("-", "t", "*", "2", "v")),
            ("share", "d", ("c",), ("1", "3")),
            ("pour", "e", ("a", "b", "c"), ()),
            ("fixed", "f", ("e",), ("10", "sum")),
            ("slide", "g", ("e",), ("10", "4", "most")),
            ("gap", "h", ("e",), ("7", "least")),
            ("join", "i", ("e", "e"), ("5", "+", "v", "w")),
            ("out", "j", ("i",), ()),
        ])

    def test_forms_at_their_bounds(self):
        for row in GOOD:
            with self.subTest(row=row):
                works = read_works(ABOVE + "\n" + row)
                self.assertEqual(len(works), 4)
                found = works[3]
                self.assertEqual(" ".join((found[0], found[1]) + found[2] + found[3]), row)
                self.assertEqual([type(part) for part in found], [str, str, tuple, tuple])

    def test_a_pour_has_all_its_froms(self):
        self.assertEqual(read_works(ABOVE + "\npour c a b a b a b a b")[3][2:], (tuple("abababab"), ()))

    def test_forms_beyond_their_bounds(self):
        for row in BAD:
            with self.subTest(row=row):
                self.assertEqual(self.refused(NoText, ABOVE + "\n" + row), 3)
                self.assertEqual(self.refused(NoText, ABOVE + "\n" + row + "\nout p a"), 3)

    def test_the_empty_text_and_empty_rows(self):
        self.assertEqual(self.refused(NoText, ""), 0)
        self.assertEqual(self.refused(NoText, "\n"), 0)
        self.assertEqual(self.refused(NoText, "in a\n"), 1)
        self.assertEqual(self.refused(NoText, "\nin a"), 0)
        self.assertEqual(self.refused(NoText, "in a\n\nin b"), 1)
        self.assertEqual(self.refused(NoText, "in a\r\nin b"), 0)

    def test_names(self):
        for row in ["in a", "in o", "keep a b = 1 1", "out a b", "out o a", "pour b a a"]:
            with self.subTest(row=row):
                self.assertEqual(self.refused(NoName, ABOVE + "\n" + row), 3)

    def test_froms(self):
        for row in [
            "keep c x = 1 1", "turn c x v", "share c x 0 1", "pour c a x", "pour c x a", "fixed c x 1 sum",
            "slide c x 1 1 sum", "gap c x 1 sum", "join c a x 0 v", "join c x a 0 v", "out c x", "out c o",
            "keep c o = 1 1", "pour c a o", "join c o a 0 v", "keep c c = 1 1", "out c c", "pour c a c", "keep c below = 1 1",
        ]:
            with self.subTest(row=row):
                self.assertEqual(self.refused(NoName, ABOVE + "\n" + row + "\nin below"), 3)

    def test_no_text_goes_ahead_of_no_name_in_one_row(self):
        for row in ["in a b", "keep a x < t", "out a o o", "share c x 2 2", "pour a x", "fixed a o 0 sum"]:
            with self.subTest(row=row):
                self.assertEqual(self.refused(NoText, ABOVE + "\n" + row), 3)

    def test_the_first_wrong_row_from_the_top(self):
        self.assertEqual(self.refused(NoName, "in a\nin a\nwrong"), 1)
        self.assertEqual(self.refused(NoText, "in a\nwrong\nin a"), 1)
        self.assertEqual(self.refused(NoName, "out o a\n\nin a"), 0)
        self.assertEqual(self.refused(NoText, "x\nin a\nin a"), 0)
        self.assertEqual(self.refused(NoName, "in a\nin b\nkeep c d = 1 1\nin a\nx"), 2)

    def test_a_from_may_stand_twice(self):
        self.assertEqual(read_works("in a\npour b a a")[1], ("pour", "b", ("a", "a"), ()))
        self.assertEqual(read_works("in a\njoin b a a 0 v")[1], ("join", "b", ("a", "a"), ("0", "v")))

    def test_rows_without_outs_and_ins_alone(self):
        self.assertEqual(read_works("in a"), [("in", "a", (), ())])

    def test_forty_rows_of_forty_words(self):
        long = "turn {} a " + "+ " * 18 + "v " * 18 + "v"
        text = "in a\n" + "\n".join(long.format(f"b{k}") for k in range(39))
        works = read_works(text)
        self.assertEqual(len(works), 40)
        self.assertEqual(shown_works(works), text)

    def test_taken_as_any_refusal(self):
        self.assertRaises(DamError, read_works, "")


class Shown(unittest.TestCase):
    def test_shown_again_it_is_the_same_text(self):
        for row in GOOD:
            text = ABOVE + "\n" + row
            self.assertEqual(shown_works(read_works(text)), text)
        self.assertEqual(shown_works(read_works("in a")), "in a")

    def test_pipes(self):
        works = read_works("in a\nin b\npour c a b a\nkeep d c = 1 1\njoin e d d 3 v\nout f e\nout g a")
        self.assertEqual(pipes_of(works), [
            ("a", "c", 0), ("b", "c", 1), ("a", "c", 2), ("c", "d", 0), ("d", "e", 0), ("d", "e", 1), ("e", "f", 0),
            ("a", "g", 0),
        ])
        self.assertEqual(pipes_of(read_works("in a\nin b")), [])

    def test_ins_and_outs(self):
        works = read_works("in b\nin a\nout z a\nin c\nout y b\nkeep k c = 1 1")
        self.assertEqual(ins_of(works), ["b", "a", "c"])
        self.assertEqual(outs_of(works), ["z", "y"])
        self.assertEqual(outs_of(read_works("in a")), [])
        self.assertEqual(ins_of([]), [])
        self.assertEqual(outs_of([]), [])

    def test_what_is_told_is_new_and_what_is_handed_in_stays(self):
        works = read_works("in a\nin b\npour c a b\nout o c")
        before = copy.deepcopy(works)
        for ask in [ins_of, outs_of, pipes_of]:
            first = ask(works)
            kept = list(first)
            first.clear()
            self.assertEqual(ask(works), kept)
        lengths = {"a": 3}
        told = flows(works, lengths)
        told["a"] = 99
        self.assertEqual(flows(works, lengths), {"a": 3, "b": 0, "c": 3, "o": 3})
        self.assertEqual(lengths, {"a": 3})
        shown_works(works)
        self.assertEqual(works, before)
        self.assertIsNot(read_works("in a"), read_works("in a"))


class Flows(unittest.TestCase):
    def flow(self, rows, lengths):
        works = read_works("in a\nin b\n" + rows)
        return list(flows(works, lengths).values())[2:]

    def test_ins(self):
        works = read_works("in a\nin b")
        self.assertEqual(flows(works, {}), {"a": 0, "b": 0})
        self.assertEqual(flows(works, {"b": 2000}), {"a": 0, "b": 2000})
        self.assertRaises(TooMuch, flows, works, {"a": 2001})
        self.assertRaises(TooMuch, flows, works, {"b": 10**30})

    def test_each_kind_of_row(self):
        for row in [
            "keep c a < t 0", "turn c a v", "share c a 0 2", "fixed c a 3 sum", "gap c a 3 sum", "out c a",
            "slide c a 3 3 sum",
        ]:
            with self.subTest(row=row):
                self.assertEqual(self.flow(row, {"a": 7, "b": 5}), [7])
                self.assertEqual(self.flow(row, {"b": 5}), [0])
        self.assertEqual(self.flow("slide c a 10 4 sum", {"a": 7}), [21])
        self.assertEqual(self.flow("slide c a 8 1 sum", {"a": 7}), [56])
        self.assertEqual(self.flow("slide c a 8 4 sum", {"a": 7}), [14])
        self.assertEqual(self.flow("slide c a 9 4 sum", {"a": 7}), [21])
        self.assertEqual(self.flow("slide c a 5 4 sum", {"a": 7}), [14])
        self.assertEqual(self.flow("pour c a b", {"a": 7, "b": 5}), [12])
        self.assertEqual(self.flow("pour c a b a", {"a": 7, "b": 5}), [19])
        self.assertEqual(self.flow("join c a b 0 v", {"a": 7, "b": 5}), [35])
        self.assertEqual(self.flow("join c a a 0 v", {"a": 7, "b": 5}), [49])
        self.assertEqual(self.flow("join c a b 0 v", {"a": 7}), [0])

    def test_row_upon_row(self):
        rows = "pour c a b\njoin d c a 0 v\nslide e d 2 1 sum\nout o e"
        self.assertEqual(self.flow(rows, {"a": 3, "b": 4}), [7, 21, 42, 42])

    def test_two_thousand_and_one_more(self):
        self.assertEqual(self.flow("pour c a b", {"a": 1999, "b": 1}), [2000])
        self.assertRaises(TooMuch, self.flow, "pour c a b", {"a": 1999, "b": 2})
        self.assertEqual(self.flow("join c a b 0 v", {"a": 50, "b": 40}), [2000])
        self.assertRaises(TooMuch, self.flow, "join c a b 0 v", {"a": 2001 // 3, "b": 3})
        self.assertEqual(self.flow("slide c a 8 1 sum", {"a": 250}), [2000])
        self.assertRaises(TooMuch, self.flow, "slide c a 8 1 sum", {"a": 251})

    def test_the_first_one_above_decides_though_later_ones_would_be_0(self):
        self.assertRaises(TooMuch, self.flow, "join c a a 0 v\njoin d c b 0 v", {"a": 45})
        self.assertEqual(self.flow("join c a a 0 v\njoin d c b 0 v", {"a": 44}), [1936, 0])

    def test_names_and_order(self):
        works = read_works("in b\nin a\npour z b a\nout o z")
        self.assertEqual(list(flows(works, {"a": 1, "b": 2}).items()), [("b", 2), ("a", 1), ("z", 3), ("o", 3)])


if __name__ == "__main__":
    unittest.main()

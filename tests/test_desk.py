import random
import unittest

from helpers import random_works_and_rows
from rowdam.desk import Desk
from rowdam.errors import NoIn, NoItem, NoMove, NoName, NoOrder, NoRoom, NoText, NoWide, TooMuch
from rowdam.lines import LinedDam
from rowdam.notes import show_item, show_things
from rowdam.plain import check_rows, plain
from rowdam.shares import fold_saved, spread_saved, widened
from rowdam.works import ins_of, outs_of, pipes_of, shown_works

AHEAD = ["add in c", "add out x a", "feed a mark 3", "room 0 5", "start"]
RUNNING = [
    "moves", "do 0", "rest", "line", "fall", "told o", "outside o", "late a", "plain o", "pipe 0", "widen f 2 1", "narrow 1",
]
NO_FORMS = [
    "", " ", "  ", "x", "in a", "ADD in c", "Start", "moves ", " moves", "moves 1", "moves  ", "rest ", "rest 1", " rest",
    "line 1", "line ", "fall 0", "fall ", "start ", " start", "start now", "add", "feed", "feed a", "feed ", "addin c",
    "room", "room ", "room 0", "room 0 ", "room 0 5 6", "room  5", "room 0  5", "room 0 5 ", " room 0 5", "room -1 5",
    "room 0 -5", "room 00 5", "room 0 05", "room +0 5", "room a 5", "room 0 x", "room 0 " + "1" * 21, "room 0 5\n",
    "room \u0660 5",
    "do", "do ", "do -1", "do x", "do 00", "do 01", "do +1", "do 0 0", "do 0 ", "do  0", "do " + "1" * 21, "do 0\n",
    "told", "told o o", "told o ", "told  o", "outside", "outside o o", "late", "late a a", "late a ", "plain",
    "plain o o", "plain o ", "pipe", "pipe ", "pipe x", "pipe -1", "pipe 00", "pipe 0 0", "pipe 0 ", "pipe " + "9" * 21,
    "widen", "widen f", "widen f 2", "widen f 2 ", "widen f 2 1 1", "widen f 2 1 ", "widen f x 1", "widen f 2 x",
    "widen f -2 1", "widen f 02 1", "widen f 2 01", "widen f 2 -1", "widen f  2 1", "widen f 2 " + "1" * 21,
    "narrow", "narrow ", "narrow x", "narrow -1", "narrow 01", "narrow 1 1", "narrow 1 ", "narrow  1", "narrow " + "1" * 21,
    "moves\n", "start\n", "\nstart", "moves\tx", "stop", "told\to", "call", "held 0", "state a",
]
NO_TEXTS = [None, True, False, 0, 3, [], ["start"], (), ("start",), {}, {"start": 1}, b"start", 1.5]
WORKS = "in a\nin b\npour p a b\nfixed f p 5 sum\nout o f\nout q p"


def desk_of(text, rows=None, rooms=None, start=True):
    desk = Desk()
    for row in text.split("\n"):
        desk.say("add " + row)
    for name, row in (rows or {}).items():
        for item in row:
            desk.say(f"feed {name} {show_item(item)}")
    for pipe, room in enumerate(rooms or []):
        desk.say(f"room {pipe} {room}")
    if start:
        desk.say("start")
    return desk


ROWS = {
    "a": [("thing", 1, "a", 5), ("mark", 4), ("thing", 2, "b", 7), ("thing", 6, "a", 1)],
    "b": [("thing", 3, "c", 2), ("thing", 3, "a", 2), ("mark", 9), ("thing", 8, "z", -3)],
}


class Forms(unittest.TestCase):
    def test_rows_of_no_form(self):
        for row in NO_FORMS:
            for desk in [Desk(), desk_of(WORKS, ROWS, start=False), desk_of(WORKS, ROWS)]:
                with self.subTest(row=row):
                    self.assertRaises(NoOrder, desk.say, row)

    def test_what_is_no_text(self):
        for row in NO_TEXTS:
            for desk in [Desk(), desk_of(WORKS), desk_of(WORKS, start=False)]:
                with self.subTest(row=row):
                    self.assertRaises(NoOrder, desk.say, row)

    def test_at_the_other_time(self):
        desk = desk_of(WORKS, ROWS, start=False)
        for row in RUNNING:
            with self.subTest(row=row):
                self.assertRaises(NoOrder, desk.say, row)
                self.assertRaises(NoOrder, Desk().say, row)
        desk = desk_of(WORKS, ROWS)
        for row in AHEAD + ["add ", "add x", "feed x y", "room 9 0"]:
            with self.subTest(row=row):
                self.assertRaises(NoOrder, desk.say, row)

    def test_each_form_at_its_own_time(self):
        desk = desk_of(WORKS, ROWS, start=False)
        for row in AHEAD:
            self.assertEqual(desk.say(row), "ok")
        for row in RUNNING:
            self.assertIsInstance(desk.say(row), str)

    def test_refused_rows_change_nothing(self):
        desk, beside = desk_of(WORKS, ROWS, start=False), desk_of(WORKS, ROWS, start=False)
        for row in NO_FORMS + NO_TEXTS + RUNNING:
            self.assertRaises(NoOrder, desk.say, row)
        for row in ["start", "line", "rest", "told q", "outside q", "told o", "pipe 0"]:
            self.assertEqual(desk.say(row), beside.say(row))
        for row in NO_FORMS + NO_TEXTS + AHEAD:
            self.assertRaises(NoOrder, desk.say, row)
        for row in ["moves", "line", "moves", "do 0", "fall", "told q", "outside q", "pipe 0"]:
            self.assertEqual(desk.say(row), beside.say(row))


class Added(unittest.TestCase):
    def refused(self, kind, desk, row):
        with self.assertRaises(kind, msg=repr(row)) as taken:
            desk.say(row)
        return taken.exception

    def test_rows(self):
        desk = Desk()
        for row in WORKS.split("\n"):
            self.assertEqual(desk.say("add " + row), "ok")
        self.assertEqual(desk.say("start"), "ok")

    def test_no_text_and_no_name(self):
        desk = Desk()
        self.assertEqual(self.refused(NoText, desk, "add ").at, 0)
        self.assertEqual(self.refused(NoText, desk, "add x").at, 0)
        self.assertEqual(self.refused(NoName, desk, "add out o a").at, 0)
        desk.say("add in a")
        for row in ["add ", "add  in b", "add in b ", "add in", "add in B", "add keep k a < t", "add add in b"]:
            self.assertEqual(self.refused(NoText, desk, row).at, 1)
        for row in ["add in a", "add out o x", "add keep a a = 1 1"]:
            self.assertEqual(self.refused(NoName, desk, row).at, 1)
        desk.say("add out o a")
        self.assertEqual(self.refused(NoName, desk, "add out p o").at, 2)
        self.assertEqual(self.refused(NoText, desk, "add out o").at, 2)
        desk.say("start")
        self.assertEqual(desk.say("told o"), "")

    def test_a_line_feed(self):
        desk = Desk()
        for row in ["add in a\n", "add in a\nin b", "add \nin a", "add \n", "add in a\nin a", "add x\ny"]:
            self.assertEqual(self.refused(NoText, desk, row).at, 0)
        desk.say("add in a")
        for row in ["add in b\nin c", "add in a\nin b", "add out o x\nin b", "add in b\n"]:
            self.assertEqual(self.refused(NoText, desk, row).at, 1)

    def test_the_forty_first_row(self):
        desk = Desk()
        for k in range(40):
            self.assertEqual(desk.say(f"add in a{k}"), "ok")
        for row in ["add in b", "add in a0", "add x", "add ", "add in b\n", "add out o x"]:
            self.refused(TooMuch, desk, row)
        self.assertEqual(desk.say("feed a39 mark 3"), "ok")
        self.assertEqual(desk.say("start"), "ok")
        self.assertEqual(desk.say("moves"), "40")


class Fed(unittest.TestCase):
    def refused(self, kind, desk, row):
        with self.assertRaises(kind, msg=repr(row)) as taken:
            desk.say(row)
        return taken.exception

    def test_items(self):
        desk = desk_of("in a\nout o a", start=False)
        for row in ["feed a thing 3 ab -4", "feed a mark 3", "feed a thing 2 b 1", "feed a thing 1000000000000 z " + "9" * 60]:
            self.assertEqual(desk.say(row), "ok")
        desk.say("start")
        desk.say("rest")
        self.assertEqual(desk.say("told o"), "3 ab -4; 1000000000000 z " + "9" * 60)
        self.assertEqual(desk.say("late a"), "2 b 1")

    def test_no_in(self):
        desk = desk_of(WORKS, start=False)
        for name in ["x", "p", "o", "", "A", "a\n"]:
            for item in ["mark 3", "", "x", "mark"]:
                self.refused(NoIn, desk, f"feed {name} {item}")
        self.refused(NoIn, Desk(), "feed a mark 3")

    def test_no_item_at_its_place(self):
        desk = desk_of(WORKS, start=False)
        for place in range(3):
            for item in ["", "x", "mark", " mark 3", "mark 3 ", "mark 03", "thing 1 A 2", "mark 3\n", "mark " + "9" * 5000]:
                self.assertEqual(self.refused(NoItem, desk, f"feed a {item}").at, place)
            desk.say("feed a mark 3")
            self.assertEqual(self.refused(NoItem, desk, "feed b x").at, 0)

    def test_the_hundred_and_first_item(self):
        desk = desk_of(WORKS, start=False)
        for k in range(100):
            self.assertEqual(desk.say(f"feed a mark {k}"), "ok")
        for item in ["mark 3", "x", ""]:
            self.refused(TooMuch, desk, f"feed a {item}")
        self.refused(NoIn, desk, "feed x mark 3")
        self.assertEqual(self.refused(NoItem, desk, "feed b x").at, 0)
        self.assertEqual(desk.say("feed b mark 3"), "ok")

    def test_an_in_may_be_fed_before_later_rows_are_added(self):
        desk = Desk()
        for row in ["add in a", "feed a thing 1 a 1", "add out o a", "feed a thing 2 a 1", "start", "rest"]:
            desk.say(row)
        self.assertEqual(desk.say("told o"), "1 a 1; 2 a 1")


class Rooms(unittest.TestCase):
    def test_rooms(self):
        desk = desk_of("in a\nout o a\nout p a", start=False)
        for row in ["room 0 7", "room 1 100", "room 0 1", "room 0 30"]:
            self.assertEqual(desk.say(row), "ok")
        desk.say("start")
        self.assertEqual([desk.say("pipe 0"), desk.say("pipe 1")], ["30 0 0", "100 0 0"])

    def test_1_where_nothing_is_told(self):
        desk = desk_of(WORKS)
        self.assertEqual([desk.say(f"pipe {pipe}") for pipe in range(5)], ["1 0 0"] * 5)

    def test_no_room(self):
        desk = desk_of("in a\nout o a", start=False)
        for row in ["room 1 5", "room 0 0", "room 0 101", "room 1 0", "room 99999999999999999999 1", "room 0 99999999999999999999"]:
            self.assertRaises(NoRoom, desk.say, row)
        self.assertRaises(NoRoom, Desk().say, "room 0 1")
        desk.say("start")
        self.assertEqual(desk.say("pipe 0"), "1 0 0")

    def test_rooms_of_pipes_that_come_later(self):
        desk = Desk()
        for row in ["add in a", "add out o a", "room 0 5"]:
            desk.say(row)
        self.assertRaises(NoRoom, desk.say, "room 1 9")
        desk.say("add pour p a a")
        self.assertEqual(desk.say("room 2 9"), "ok")
        desk.say("add out q p")
        desk.say("start")
        self.assertEqual([desk.say(f"pipe {pipe}") for pipe in range(4)], ["5 0 0", "1 0 0", "9 0 0", "1 0 0"])
        self.assertRaises(NoRoom, desk.say, "pipe 4")


class Started(unittest.TestCase):
    def test_without_rows(self):
        desk = Desk()
        self.assertRaises(NoOrder, desk.say, "start")
        desk.say("add in a")
        self.assertEqual(desk.say("start"), "ok")

    def test_too_much(self):
        desk = desk_of("in a\njoin j a a 0 v", {"a": [("mark", 1)] * 45}, start=False)
        self.assertRaises(TooMuch, desk.say, "start")
        self.assertRaises(NoOrder, desk.say, "moves")
        self.assertEqual(desk.say("add in b"), "ok")
        self.assertRaises(TooMuch, desk.say, "start")
        desk = desk_of("in a\njoin j a a 0 v", {"a": [("mark", 1)] * 44}, start=False)
        self.assertEqual(desk.say("start"), "ok")

    def test_two_desks_are_apart(self):
        one, other = desk_of(WORKS, ROWS), Desk()
        one.say("rest")
        self.assertRaises(NoOrder, other.say, "moves")
        self.assertEqual(other.say("add in z"), "ok")


class Running(unittest.TestCase):
    def test_moves_and_do(self):
        desk = desk_of("in a\nout o a", {"a": [("thing", 1, "a", 5)]})
        self.assertEqual(desk.say("moves"), "1")
        for row in ["do 1", "do 2", "do 99999999999999999999"]:
            self.assertRaises(NoMove, desk.say, row)
        self.assertEqual(desk.say("do 0"), "draw a")
        self.assertEqual(desk.say("do 0"), "tell a")
        self.assertEqual(desk.say("moves"), "2")
        self.assertEqual(desk.say("pipe 0"), "0 1 0")
        self.assertEqual(desk.say("do 1"), "take 0")
        self.assertEqual(desk.say("pipe 0"), "0 0 1")
        self.assertEqual(desk.say("do 1"), "give 0")
        self.assertEqual(desk.say("told o"), "1 a 5")
        self.assertEqual(desk.say("line"), "1")
        self.assertEqual(desk.say("do 1"), "line a")
        self.assertEqual(desk.say("rest"), "7")
        self.assertEqual(desk.say("moves"), "0")
        self.assertRaises(NoMove, desk.say, "do 0")
        self.assertEqual(desk.say("rest"), "0")
        self.assertEqual(desk.say("outside o"), "1 a 5")
        self.assertEqual(desk.say("fall"), "1")

    def test_names(self):
        desk = desk_of(WORKS, ROWS)
        for name in ["a", "p", "f", "x", "", "O", "o\n"]:
            self.assertRaises(NoOrder, desk.say, f"told {name}")
            self.assertRaises(NoOrder, desk.say, f"outside {name}")
        for name in ["p", "o", "x", "", "a\n"]:
            self.assertRaises(NoIn, desk.say, f"late {name}")
        for name in ["x", "", "A", "o\n"]:
            self.assertRaises(NoOrder, desk.say, f"plain {name}")
        for pipe in [5, 6, 10**19]:
            self.assertRaises(NoRoom, desk.say, f"pipe {pipe}")
        self.assertEqual(desk.say("pipe 4"), "1 0 0")

    def test_plain_for_as_many_draws_as_are_done(self):
        desk = desk_of(WORKS, ROWS)
        self.assertEqual([desk.say(f"plain {name}") for name in "abpfoq"], [""] * 6)
        desk.say("do 0")
        self.assertEqual(desk.say("plain a"), "1 a 5")
        self.assertEqual(desk.say("plain q"), "1 a 5")
        self.assertEqual(desk.say("told q"), "")
        desk.say("rest")
        self.assertEqual(desk.say("plain o"), "4 a 7; 4 c 2; 9 a 1")
        self.assertEqual(desk.say("told o"), "4 a 7; 4 c 2; 9 a 1")
        self.assertEqual(desk.say("plain b"), "3 a 2; 3 c 2")
        self.assertEqual(desk.say("late a"), "2 b 7")
        self.assertEqual(desk.say("late b"), "8 z -3")
        self.assertEqual(desk.say("fall"), "0")
        self.assertEqual(desk.say("plain o"), "")
        self.assertEqual(desk.say("late a"), "")
        self.assertEqual(desk.say("told o"), "")


class Wide(unittest.TestCase):
    def test_refusals_and_which_comes_first(self):
        desk = desk_of(WORKS, ROWS)
        for row in ["narrow 1", "narrow 0", "narrow 101"]:
            self.assertRaises(NoWide, desk.say, row)
        for row in ["widen x 2 1", "widen p 2 1", "widen o 2 1", "widen a 2 0", "widen f 1 1", "widen f 9 0", "widen f 0 1", "widen  2 1"]:
            self.assertRaises(NoWide, desk.say, row)
        for row in ["widen f 2 0", "widen f 8 101", "widen f 2 99999999999999999999"]:
            self.assertRaises(NoRoom, desk.say, row)
        self.assertEqual(desk.say("widen f 2 1"), "ok")
        for row in ["widen f 2 1", "widen x 2 1", "widen f 9 0", "widen f0 2 1"]:
            self.assertRaises(NoOrder, desk.say, row)
        for row in ["narrow 0", "narrow 101"]:
            self.assertRaises(NoRoom, desk.say, row)
        self.assertEqual(desk.say("narrow 1"), "ok")
        self.assertRaises(NoWide, desk.say, "narrow 0")

    def test_too_much_of_the_widened_works(self):
        desk = desk_of("in a\njoin j a a 0 v\nout o j", {"a": [("mark", 1)] * 40})
        self.assertRaises(NoWide, desk.say, "widen o 2 0")
        self.assertRaises(NoRoom, desk.say, "widen j 2 0")
        desk.say("do 0")
        self.assertRaises(TooMuch, desk.say, "widen j 2 1")
        self.assertRaises(NoWide, desk.say, "narrow 1")
        self.assertEqual(desk.say("pipe 2"), "1 0 0")
        self.assertRaises(NoOrder, desk.say, "plain j0")
        self.assertEqual(desk.say("moves"), "1")
        self.assertEqual(desk.say("do 0"), "tell a")

    def test_the_works_that_runs(self):
        desk = desk_of(WORKS, ROWS)
        self.assertRaises(NoOrder, desk.say, "plain f0")
        self.assertRaises(NoRoom, desk.say, "pipe 9")
        desk.say("widen f 2 30")
        # Two pipes to p, then share and fixed twice, two to the pour f, one to each out.
        self.assertEqual([desk.say(f"pipe {pipe}") for pipe in range(10)], ["30 0 0"] * 10)
        self.assertRaises(NoRoom, desk.say, "pipe 10")
        desk.say("rest")
        self.assertEqual(desk.say("plain f0"), "4 a 7; 4 c 2; 9 a 1")
        self.assertEqual(desk.say("plain f1"), "")
        self.assertEqual(desk.say("plain f"), "4 a 7; 4 c 2; 9 a 1")
        desk.say("narrow 4")
        self.assertRaises(NoOrder, desk.say, "plain f0")
        self.assertEqual([desk.say(f"pipe {pipe}") for pipe in range(5)], ["4 0 0"] * 5)
        self.assertRaises(NoRoom, desk.say, "pipe 5")

    def test_from_the_last_whole_line_with_lines_from_1_again(self):
        desk = desk_of(WORKS, ROWS)
        for k in range(3):
            self.assertEqual(desk.say("line"), str(k + 1))
        desk.say("rest")
        self.assertEqual(desk.say("fall"), "3")
        outside = desk.say("outside q")
        self.assertEqual(desk.say("told q"), outside)
        self.assertEqual(desk.say("widen f 3 2"), "ok")
        self.assertEqual(desk.say("outside q"), outside)
        self.assertEqual(desk.say("told q"), outside)
        self.assertEqual(desk.say("fall"), "0")
        self.assertEqual(desk.say("line"), "1")
        self.assertEqual(desk.say("line"), "2")
        desk.say("rest")
        self.assertEqual(desk.say("fall"), "2")
        self.assertEqual(desk.say("narrow 1"), "ok")
        self.assertEqual(desk.say("line"), "1")
        self.assertEqual(desk.say("fall"), "0")
        desk.say("rest")
        self.assertEqual(desk.say("told o"), desk.say("plain o"))

    def test_what_is_behind_the_last_whole_line_is_drawn_again(self):
        desk = desk_of(WORKS, ROWS)
        desk.say("rest")
        self.assertEqual(desk.say("late a"), "2 b 7")
        desk.say("widen f 2 1")
        self.assertEqual([desk.say("late a"), desk.say("told q"), desk.say("plain a")], ["", "", ""])
        desk.say("rest")
        self.assertEqual(desk.say("late a"), "2 b 7")


class Beside(unittest.TestCase):
    """A desk and a machine that is told the same, step by step."""

    def check_alike(self, desk, made, works, rows):
        self.assertEqual(desk.say("moves"), str(len(made.moves())))
        for name in outs_of(works):
            self.assertEqual(desk.say(f"told {name}"), show_things(made.told(name)))
            self.assertEqual(desk.say(f"outside {name}"), show_things(made.outside(name)))
        for name in ins_of(works):
            self.assertEqual(desk.say(f"late {name}"), show_things(made.late(name)))
        for pipe in range(len(pipes_of(works))):
            self.assertEqual(desk.say(f"pipe {pipe}"), " ".join(str(count) for count in made.counts(pipe)))

    def check_plain(self, desk, made, works, rows):
        read = plain(works, rows, {name: made.drawn(name) for name in ins_of(works)})
        for row in works:
            self.assertEqual(desk.say(f"plain {row[1]}"), show_things(read[row[1]][0]))

    def step(self, chance, desk, made):
        what = chance.random()
        if what < 0.1 and made.called() - made.whole() < 6:
            self.assertEqual(desk.say("line"), str(made.call()))
        elif what < 0.13:
            self.assertEqual(desk.say("fall"), str(made.fall()))
        elif what < 0.14:
            self.assertEqual(desk.say("rest"), str(made.rest()))
        elif made.moves():
            place = chance.randrange(len(made.moves()))
            move = made.moves()[place]
            self.assertEqual(desk.say(f"do {place}"), f"{move[0]} {move[1]}")
            made.do(move)

    def widen(self, chance, desk, made, works, rows):
        """The widened works, its machine, and the name and number, or None where it is refused."""
        name, many, room = chance.choice(works)[1], chance.randrange(1, 5), chance.choice([1, 2, 100])
        row = f"widen {name} {many} {room}"
        try:
            wide = widened(works, name, many)
            check_rows(wide, rows)
        except (NoWide, TooMuch) as refusal:
            self.assertRaises(type(refusal), desk.say, row)
            return None
        self.assertEqual(desk.say(row), "ok")
        saved = spread_saved(made.saved(), works, name, many)
        return wide, LinedDam(wide, rows, [room] * len(pipes_of(wide)), saved), (name, many)

    def narrow(self, chance, desk, made, works, rows, by):
        room = chance.choice([1, 2, 100])
        self.assertEqual(desk.say(f"narrow {room}"), "ok")
        saved = fold_saved(made.saved(), works, by[0], by[1])
        return LinedDam(works, rows, [room] * len(pipes_of(works)), saved)

    def run_one(self, chance):
        works, rows = random_works_and_rows(chance, many=7, length=7)
        rooms = [chance.choice([1, 2, 100]) for pipe in pipes_of(works)]
        desk = desk_of(shown_works(works), rows, rooms)
        made, running, by, turns = LinedDam(works, rows, rooms), works, None, 0
        for step in range(chance.randrange(250)):
            self.step(chance, desk, made)
            if step % 10 == 0:
                self.check_alike(desk, made, running, rows)
                self.check_plain(desk, made, running, rows)
            if chance.random() < 0.03 and by is None:
                found = self.widen(chance, desk, made, works, rows)
                if found:
                    running, made, by = found
                    turns += 1
            elif chance.random() < 0.03 and by is not None:
                made, running, by = self.narrow(chance, desk, made, works, rows, by), works, None
                turns += 1
        self.assertEqual(desk.say("rest"), str(made.rest()))
        self.assertEqual(desk.say("line"), str(made.call()))
        self.assertEqual(desk.say("rest"), str(made.rest()))
        self.check_alike(desk, made, running, rows)
        read = plain(works, rows)
        for name in outs_of(works):
            self.assertEqual(sorted(made.outside(name)), read[name][0])
            self.assertEqual(desk.say(f"plain {name}"), show_things(read[name][0]))
        return turns

    def test_any_works(self):
        chance = random.Random(21)
        turns = 0
        for turn in range(80):
            with self.subTest(turn=turn):
                turns += self.run_one(chance)
        self.assertGreater(turns, 60)


if __name__ == "__main__":
    unittest.main()

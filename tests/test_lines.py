import copy
import random
import unittest

from helpers import check_pipes, check_rest, is_something_left, mark, random_rooms, random_works_and_rows
from helpers import sorted_outs, states_at_rest, thing
from rowdam.errors import NoIn, NoItem, NoMove, NoRoom, TooMuch
from rowdam.lines import LinedDam
from rowdam.machine import Dam
from rowdam.plain import plain
from rowdam.things import LAST
from rowdam.works import ins_of, outs_of, pipes_of, read_works

ONE = "in a\nout o a"
TWO = "in a\nin b\npour p a b\nout o p"


def line(number):
    return ("line", number)


def lined(text, rows=None, rooms=None, room=1, saved=None):
    works = read_works(text)
    if rooms is None:
        rooms = [room] * len(pipes_of(works))
    return LinedDam(works, {} if rows is None else rows, rooms, saved)


def do_all(made, *moves):
    for move in moves:
        made.do(move)


def look(made, works):
    rows = [(row[1], made.tray(row[1]), made.state(row[1])) for row in works]
    pipes = [(made.inside(pipe), made.counts(pipe), made.held(pipe)) for pipe in range(len(pipes_of(works)))]
    outside = [made.outside(name) for name in outs_of(works)]
    return rows, pipes, outside, made.moves(), made.called(), made.whole(), made.saved()


class Made(unittest.TestCase):
    def test_a_machine_with_line_0(self):
        made = lined(TWO)
        self.assertIsInstance(made, Dam)
        self.assertEqual((made.called(), made.whole()), (0, 0))
        self.assertEqual(made.saved(), {"a": ([0], [0]), "b": ([0], [0]), "p": ([0, 0], []), "o": ([0], [])})
        self.assertEqual(list(made.saved()), ["a", "b", "p", "o"])
        self.assertEqual(made.outside("o"), [])
        self.assertEqual([made.held(pipe) for pipe in range(3)], [False, False, False])
        self.assertEqual(made.moves(), [("draw", "a"), ("draw", "b")])

    def test_refused_as_a_machine(self):
        works = read_works(TWO)
        many = [mark(1)] * 2001
        for kind, rows, rooms in [
            (NoIn, {"x": [None]}, []), (NoItem, {"a": [None] + many}, []), (TooMuch, {"a": many}, []),
            (NoRoom, {}, [1, 1]), (NoRoom, {}, [1, 1, 0]), (NoRoom, {}, [1, 1, True]),
        ]:
            self.assertRaises(kind, LinedDam, works, rows, rooms)

    def test_runs_as_a_machine_where_no_line_is_called(self):
        chance = random.Random(13)
        for turn in range(30):
            works, rows = random_works_and_rows(chance)
            rooms = random_rooms(chance, works)
            one, other = LinedDam(works, rows, rooms), Dam(works, rows, rooms)
            while other.moves():
                self.assertEqual(one.moves(), other.moves())
                move = chance.choice(other.moves())
                one.do(move)
                other.do(move)
            self.assertEqual(one.moves(), [])
            for row in works:
                self.assertEqual(one.state(row[1]), other.state(row[1]))


class Lines(unittest.TestCase):
    def test_line_stands_behind_the_draw_of_the_same_row(self):
        made = lined(TWO, {"a": [thing(1)]})
        self.assertRaises(NoMove, made.do, ("line", "a"))
        self.assertEqual(made.call(), 1)
        self.assertEqual(made.moves(), [("draw", "a"), ("line", "a"), ("draw", "b"), ("line", "b")])
        do_all(made, ("draw", "b"))
        self.assertEqual(made.moves(), [("draw", "a"), ("line", "a"), ("tell", "b")])
        self.assertRaises(NoMove, made.do, ("line", "b"))
        for move in [("line", "p"), ("line", "o"), ("line", "x"), ("line", 0), ("line", 1)]:
            self.assertRaises(NoMove, made.do, move)

    def test_possible_behind_the_end_too(self):
        made = lined(ONE)
        self.assertEqual(made.rest(), 4)
        made.call()
        self.assertEqual(made.moves(), [("line", "a")])
        do_all(made, ("line", "a"))
        self.assertEqual(made.tray("a"), [line(1)])
        self.assertEqual(made.moves(), [("tell", "a")])
        self.assertEqual(made.rest(), 3)
        self.assertEqual((made.whole(), made.saved()), (1, {"a": ([LAST], [1]), "o": ([LAST], [])}))

    def test_not_where_all_called_lines_are_passed_on(self):
        made = lined(ONE, {"a": [thing(1)]}, room=9)
        made.call()
        self.assertEqual(made.call(), 2)
        do_all(made, ("line", "a"), ("tell", "a"))
        self.assertIn(("line", "a"), made.moves())
        do_all(made, ("line", "a"), ("tell", "a"))
        self.assertNotIn(("line", "a"), made.moves())
        self.assertRaises(NoMove, made.do, ("line", "a"))
        self.assertEqual(made.inside(0), [line(1), line(2)])
        self.assertEqual((made.called(), made.whole()), (2, 0))
        made.call()
        self.assertIn(("line", "a"), made.moves())

    def test_an_ins_saved_state(self):
        made = lined(ONE, {"a": [mark(3), thing(2), thing(4)]}, room=9)
        do_all(made, ("draw", "a"), ("tell", "a"), ("draw", "a"))
        made.call()
        do_all(made, ("line", "a"), ("tell", "a"), ("draw", "a"), ("tell", "a"))
        self.assertEqual(made.inside(0), [mark(3), line(1), thing(4)])
        do_all(made, ("take", 0), ("take", 0))
        self.assertEqual(made.saved(), {"a": ([3], [2]), "o": ([3], [])})
        self.assertEqual(made.state("a"), ([3], [3]))

    def test_one_way(self):
        made = lined("in a\nfixed f a 5 sum\nout o f", {"a": [thing(1, "a", 4), thing(2, "a", 5)]}, room=3)
        do_all(made, ("draw", "a"), ("tell", "a"))
        made.call()
        do_all(made, ("line", "a"), ("tell", "a"), ("draw", "a"), ("tell", "a"), ("take", 0), ("take", 0))
        self.assertEqual((made.tray("f"), made.held(0)), ([line(1)], False))
        self.assertRaises(NoMove, made.do, ("take", 0))
        do_all(made, ("tell", "f"), ("take", 0))
        self.assertEqual((made.tray("f"), made.inside(1), made.whole()), ([], [line(1)], 0))
        do_all(made, ("take", 1))
        self.assertEqual((made.tray("o"), made.whole()), ([], 1))
        self.assertEqual(made.saved(), {"a": ([0], [1]), "f": ([0], [(5, "a", 4)]), "o": ([0], [])})

    def test_two_ways(self):
        made = lined(TWO, {"a": [thing(1), thing(2)], "b": [thing(5), thing(6)]}, room=3)
        made.call()
        do_all(made, ("line", "a"), ("tell", "a"), ("draw", "a"), ("tell", "a"), ("take", 0))
        self.assertEqual([made.held(pipe) for pipe in range(3)], [True, False, False])
        self.assertEqual((made.inside(0), made.counts(0), made.tray("p")), ([thing(1)], (1, 1, 1), []))
        self.assertNotIn(("take", 0), made.moves())
        self.assertRaises(NoMove, made.do, ("take", 0))
        self.assertIn(("give", 0), made.moves())
        do_all(made, ("give", 0))
        self.assertEqual((made.counts(0), made.held(0)), ((2, 1, 0), True))
        do_all(made, ("draw", "b"), ("tell", "b"), ("line", "b"), ("tell", "b"), ("take", 1))
        self.assertEqual(made.tray("p"), [thing(5)])
        self.assertEqual([made.held(pipe) for pipe in range(3)], [True, False, False])
        do_all(made, ("tell", "p"), ("take", 1))
        self.assertEqual([made.held(pipe) for pipe in range(3)], [False, False, False])
        self.assertEqual(made.tray("p"), [line(1)])
        do_all(made, ("tell", "p"), ("take", 0))
        self.assertEqual(made.inside(2), [thing(5), line(1)])
        do_all(made, ("take", 2), ("take", 2))
        self.assertEqual((made.whole(), made.outside("o")), (1, [(5, "a", 1)]))
        self.assertEqual(made.saved()["b"], ([0], [1]))

    def test_a_from_twice(self):
        made = lined("in a\njoin j a a 2 + v w\nout o j", {"a": [thing(1), thing(2)]}, room=5)
        do_all(made, ("draw", "a"), ("tell", "a"))
        made.call()
        do_all(made, ("line", "a"), ("tell", "a"), ("draw", "a"), ("tell", "a"))
        do_all(made, ("take", 1), ("take", 1))
        self.assertEqual([made.held(pipe) for pipe in range(3)], [False, True, False])
        self.assertRaises(NoMove, made.do, ("take", 1))
        do_all(made, ("take", 0))
        self.assertEqual(made.tray("j"), [thing(1, "a", 2)])
        do_all(made, ("tell", "j"), ("take", 0))
        self.assertEqual([made.held(pipe) for pipe in range(3)], [False, False, False])
        self.assertEqual(made.tray("j"), [line(1)])
        do_all(made, ("tell", "j"), ("take", 2), ("take", 2))
        self.assertEqual(made.saved()["j"], ([0, 0], [(0, 1, "a", 1), (1, 1, "a", 1)]))
        self.assertEqual(made.outside("o"), [(1, "a", 2)])

    def test_eight_ways(self):
        text = "".join(f"in {name}\n" for name in "abcdefgh") + "pour p a b c d e f g h\nout o p"
        made = lined(text, {name: [thing(1)] for name in "abcdefgh"}, room=5)
        made.call()
        for name in "abcdefgh":
            do_all(made, ("line", name), ("tell", name), ("draw", name), ("tell", name))
        for way in [3, 0, 7, 1, 2, 6, 4]:
            do_all(made, ("take", way), ("give", way))
            self.assertTrue(made.held(way))
            self.assertEqual(made.tray("p"), [])
        self.assertEqual([move for move in made.moves() if move[0] == "take"], [("take", 5)])
        do_all(made, ("take", 5))
        self.assertEqual([made.held(pipe) for pipe in range(9)], [False] * 9)
        self.assertEqual(made.tray("p"), [line(1)])
        do_all(made, ("tell", "p"))
        self.assertEqual([move for move in made.moves() if move[0] == "take"], [("take", pipe) for pipe in range(9)])

    def test_several_lines_one_behind_the_other(self):
        made = lined(TWO, {"a": [thing(1)], "b": [thing(5)]}, room=9)
        self.assertEqual([made.call(), made.call(), made.call()], [1, 2, 3])
        do_all(made, ("line", "a"), ("tell", "a"), ("line", "a"), ("tell", "a"), ("draw", "a"), ("tell", "a"))
        do_all(made, ("line", "a"), ("tell", "a"), ("take", 0))
        do_all(made, ("line", "b"), ("tell", "b"), ("draw", "b"), ("tell", "b"), ("line", "b"), ("tell", "b"))
        do_all(made, ("take", 1), ("tell", "p"), ("take", 1), ("tell", "p"), ("take", 1))
        self.assertEqual([made.held(pipe) for pipe in range(2)], [False, True])
        do_all(made, ("take", 2))
        self.assertEqual((made.called(), made.whole()), (3, 1))
        do_all(made, ("take", 0))
        self.assertEqual((made.held(0), made.held(1), made.tray("p")), (False, False, [line(2)]))
        do_all(made, ("tell", "p"), ("take", 0), ("tell", "p"), ("take", 0))
        self.assertEqual((made.held(0), made.inside(2)), (True, [thing(5), line(2), thing(1)]))
        do_all(made, ("take", 2), ("take", 2), ("take", 2))
        self.assertEqual((made.whole(), made.outside("o"), made.told("o")), (2, [(5, "a", 1)], [(5, "a", 1), (1, "a", 1)]))
        made.rest()
        self.assertEqual((made.called(), made.whole(), made.moves()), (3, 3, []))

    def test_whole_just_when_all_rows_have_saved(self):
        made = lined("in a\nout o a\nin b\nout p a\nkeep k b = 1 1", {"a": [thing(1)]}, room=2)
        made.call()
        steps = [
            ("line", "a"), ("tell", "a"), ("take", 1), ("line", "b"), ("take", 0), ("tell", "b"),
        ]
        for move in steps:
            made.do(move)
            self.assertEqual(made.whole(), 0)
        do_all(made, ("take", 2))
        self.assertEqual(made.whole(), 1)
        self.assertEqual(made.tray("k"), [line(1)])
        do_all(made, ("tell", "k"))
        self.assertEqual(made.tray("k"), [])

    def test_an_in_alone_is_a_whole_works(self):
        made = lined("in a", {"a": [thing(1)]})
        do_all(made, ("draw", "a"), ("tell", "a"))
        made.call()
        do_all(made, ("line", "a"))
        self.assertEqual((made.whole(), made.saved(), made.tray("a")), (1, {"a": ([0], [1])}, [line(1)]))

    def test_rest_does_the_lines_too(self):
        made = lined(TWO, {"a": [thing(1)], "b": [thing(5)]})
        made.call()
        other = lined(TWO, {"a": [thing(1)], "b": [thing(5)]})
        other.call()
        many = 0
        while other.moves():
            other.do(other.moves()[0])
            many += 1
        self.assertEqual(made.rest(), many)
        self.assertEqual((made.whole(), made.saved()), (other.whole(), other.saved()))
        self.assertEqual(made.whole(), 1)


class Falls(unittest.TestCase):
    text = "in a\nin b\npour p a b\ngap g p 3 sum\nout o g\nout q p"
    works = read_works(text)
    rows = {"a": [thing(1), mark(9), thing(2, "b", 5), thing(9)], "b": [mark(7), thing(3, "c", 1), thing(8)]}

    def check_fallen(self, made, rooms, number, saved):
        self.assertEqual((made.whole(), made.called()), (number, number))
        self.assertEqual(made.saved(), saved)
        for row in self.works:
            self.assertEqual(made.tray(row[1]), [])
            self.assertEqual(made.state(row[1]), saved[row[1]])
        for pipe, room in enumerate(rooms):
            self.assertEqual((made.inside(pipe), made.counts(pipe), made.held(pipe)), ([], (room, 0, 0), False))
        for name in "ab":
            self.assertEqual(made.drawn(name), saved[name][1][0])
        for name in "oq":
            self.assertEqual(made.outside(name), saved[name][1])
            self.assertEqual(made.told(name), saved[name][1])

    def test_to_line_0_at_any_time(self):
        rooms = [2, 1, 3, 1, 1]
        chance = random.Random(14)
        for many in range(0, 60, 3):
            made = LinedDam(self.works, self.rows, rooms)
            first = made.saved()
            for turn in range(many):
                if made.moves() and made.whole() == 0:
                    made.do(chance.choice(made.moves()))
            self.assertEqual(made.fall(), 0)
            self.check_fallen(made, rooms, 0, first)
            self.assertEqual(made.moves(), [("draw", "a"), ("draw", "b")])
            made.rest()
            self.assertEqual(sorted(made.told("q")), plain(self.works, self.rows)["q"][0])

    def test_to_the_last_whole_line_at_any_time(self):
        rooms = [2, 1, 3, 1, 1]
        chance = random.Random(15)
        for turn in range(40):
            made = LinedDam(self.works, self.rows, rooms)
            for step in range(chance.randrange(150)):
                if chance.random() < 0.1:
                    made.call()
                if made.moves():
                    made.do(chance.choice(made.moves()))
            number, saved, late = made.whole(), made.saved(), made.late("a")
            self.assertEqual(made.fall(), number)
            self.check_fallen(made, rooms, number, saved)
            self.assertEqual(made.late("a"), late[:len(made.late("a"))])
            self.assertEqual(made.fall(), number)
            self.check_fallen(made, rooms, number, saved)
            self.assertEqual(made.call(), number + 1)
            made.rest()
            self.assertEqual((made.whole(), made.called()), (number + 1, number + 1))
            self.assertEqual(sorted(made.told("q")), plain(self.works, self.rows)["q"][0])
            self.assertEqual(made.told("o"), plain(self.works, self.rows)["o"][0])

    def test_late_ones_are_drawn_again(self):
        made = lined(ONE, {"a": [mark(5), thing(4), thing(3, "b")]}, room=9)
        do_all(made, ("draw", "a"), ("tell", "a"), ("draw", "a"))
        made.call()
        do_all(made, ("line", "a"), ("tell", "a"), ("take", 0), ("take", 0), ("draw", "a"))
        self.assertEqual(made.late("a"), [(4, "a", 1), (3, "b", 1)])
        self.assertEqual(made.fall(), 1)
        self.assertEqual((made.late("a"), made.drawn("a"), made.state("a")), ([(4, "a", 1)], 2, ([5], [2])))
        do_all(made, ("draw", "a"))
        self.assertEqual((made.late("a"), made.tray("a")), ([(4, "a", 1), (3, "b", 1)], []))

    def test_lines_called_behind_are_forgotten(self):
        made = lined(TWO, {"a": [thing(1)], "b": [thing(5)]}, room=9)
        made.call()
        made.rest()
        self.assertEqual(made.whole(), 1)
        self.assertEqual([made.call(), made.call()], [2, 3])
        do_all(made, ("line", "a"), ("tell", "a"), ("take", 0), ("line", "b"), ("tell", "b"))
        self.assertTrue(made.held(0))
        self.assertEqual(made.fall(), 1)
        self.assertEqual((made.called(), made.whole(), made.held(0)), (1, 1, False))
        self.assertEqual([move for move in made.moves() if move[0] == "line"], [])
        self.assertEqual(made.call(), 2)
        made.rest()
        self.assertEqual((made.called(), made.whole()), (2, 2))

    def test_what_was_saved_for_a_forgotten_line_is_forgotten_too(self):
        made = lined(TWO, {"a": [thing(1)], "b": [thing(5)]}, room=9)
        made.call()
        do_all(made, ("line", "a"), ("line", "b"), ("tell", "a"), ("tell", "b"), ("take", 0), ("take", 1), ("tell", "p"))
        self.assertEqual(made.fall(), 0)
        made.call()
        do_all(made, ("draw", "a"), ("tell", "a"), ("line", "a"), ("tell", "a"), ("take", 0), ("tell", "p"))
        do_all(made, ("line", "b"), ("tell", "b"), ("take", 0), ("take", 1), ("tell", "p"))
        self.assertEqual(made.whole(), 0)
        do_all(made, ("take", 2), ("take", 2))
        self.assertEqual(made.whole(), 1)
        self.assertEqual(made.saved()["a"], ([0], [1]))
        self.assertEqual(made.outside("o"), [(1, "a", 1)])

    def test_outside_behind_each_whole_line(self):
        made = lined(ONE, {"a": [thing(time) for time in range(4)]}, room=2)
        for many in range(4):
            do_all(made, ("draw", "a"), ("tell", "a"), ("take", 0))
            self.assertEqual(len(made.outside("o")), many)
            self.assertEqual(made.call(), many + 1)
            do_all(made, ("line", "a"), ("tell", "a"))
            self.assertEqual(len(made.outside("o")), many)
            do_all(made, ("take", 0))
            self.assertEqual(made.outside("o"), [(time, "a", 1) for time in range(many + 1)])
            do_all(made, ("give", 0))


class OfSavedStates(unittest.TestCase):
    def test_goes_on(self):
        chance = random.Random(16)
        for turn in range(60):
            works, rows = random_works_and_rows(chance)
            made = LinedDam(works, rows, random_rooms(chance, works))
            for step in range(chance.randrange(200)):
                if chance.random() < 0.05:
                    made.call()
                if made.moves():
                    made.do(chance.choice(made.moves()))
            saved = made.saved()
            other = LinedDam(works, rows, random_rooms(chance, works), saved)
            self.assertEqual((other.called(), other.whole()), (0, 0))
            self.assertEqual(other.saved(), saved)
            for name in outs_of(works):
                self.assertEqual(other.outside(name), saved[name][1])
                self.assertEqual(other.told(name), saved[name][1])
            for row in works:
                self.assertEqual((other.tray(row[1]), other.state(row[1])), ([], saved[row[1]]))
            for move in other.moves()[:1]:
                other.do(move)
            self.assertEqual(other.fall(), 0)
            self.assertEqual(other.saved(), saved)
            other.rest()
            self.assertEqual(other.call(), 1)
            other.rest()
            self.assertEqual(other.whole(), 1)
            read = plain(works, rows)
            for name in outs_of(works):
                self.assertEqual(sorted(other.outside(name)), read[name][0])
                self.assertEqual(other.outside(name)[:len(saved[name][1])], saved[name][1])

    def test_what_is_handed_in_and_told_is_apart(self):
        made = lined(TWO, {"a": [thing(1)], "b": [thing(5)]}, room=9)
        made.call()
        made.rest()
        saved = made.saved()
        before = copy.deepcopy(saved)
        other = lined(TWO, {"a": [thing(1)], "b": [thing(5)]}, room=9, saved=saved)
        other.call()
        other.rest()
        self.assertEqual(saved, before)
        again = lined(TWO, {"a": [thing(1)], "b": [thing(5)]}, room=9, saved=saved)
        for marks, kept in saved.values():
            marks.append(3)
            marks[0] = 77
            kept.clear()
        saved.clear()
        self.assertEqual(again.saved(), before)
        self.assertEqual(again.fall(), 0)
        self.assertEqual({name: again.state(name) for name in "abpo"}, before)
        for ask in [again, made]:
            told = ask.saved()
            parts = [part for state in told.values() for part in state]
            self.assertEqual(len({id(part) for part in parts}), len(parts))
            for part in parts:
                part.append(9)
            told.clear()
            ask.outside("o").clear()
            self.assertEqual(ask.saved(), before)
            self.assertEqual(ask.outside("o"), before["o"][1])
            ask.fall()
            self.assertEqual({name: ask.state(name) for name in "abpo"}, before)

    def test_none_is_as_nothing_handed_in(self):
        self.assertEqual(lined(TWO, saved=None).saved(), lined(TWO).saved())


class Promised(unittest.TestCase):
    def left(self, made, works, rows):
        return made.called() > made.whole() or is_something_left(made, works, rows)

    def check_whole(self, chance, made, works, rows):
        """The states of a whole line are those of a machine at rest that drew as many."""
        saved = sorted_outs(works, made.saved())
        draws = {name: saved[name][1][0] for name in ins_of(works)}
        other = Dam(works, rows, random_rooms(chance, works))
        self.assertEqual(saved, states_at_rest(chance, other, works, draws))

    def run_one(self, chance, works, rows, rooms):
        made = LinedDam(works, rows, rooms)
        outside = {name: [] for name in outs_of(works)}
        liked = {word: chance.choice([0.05, 1, 1, 6]) for word in ["draw", "line", "tell", "take", "give"]}
        falls = 0
        number = 0
        for step in range(chance.randrange(600)):
            check_pipes(self, made, works, rooms)
            moves = made.moves()
            self.assertEqual(bool(moves), self.left(made, works, rows))
            if all(move[0] == "draw" for move in moves):
                check_rest(self, made, works, rows)
            if chance.random() < 0.06 and made.called() - made.whole() < 5:
                self.assertEqual(made.call(), made.called())
            elif chance.random() < 0.01:
                self.assertEqual(made.fall(), made.whole())
                falls += 1
            elif moves:
                made.do(chance.choices(moves, [liked[move[0]] for move in moves])[0])
            for name, before in outside.items():
                self.assertEqual(made.outside(name)[:len(before)], before)
                outside[name] = made.outside(name)
            if made.whole() != number:
                self.assertEqual(made.whole(), number + 1)
                number = made.whole()
                self.check_whole(chance, made, works, rows)
        self.finish(made, works, rows, outside)
        return number, falls

    def finish(self, made, works, rows, outside):
        made.rest()
        self.assertFalse(self.left(made, works, rows))
        check_rest(self, made, works, rows)
        number = made.call()
        made.rest()
        self.assertEqual(made.whole(), number)
        read = plain(works, rows)
        for name, before in outside.items():
            self.assertEqual(sorted(made.outside(name)), read[name][0])
            self.assertEqual(made.outside(name)[:len(before)], before)

    def test_any_works_rooms_orders_lines_and_falls(self):
        chance = random.Random(17)
        lines = falls = 0
        for turn in range(150):
            works, rows = random_works_and_rows(chance)
            with self.subTest(turn=turn, works=works, rows=rows):
                found = self.run_one(chance, works, rows, random_rooms(chance, works))
                lines += found[0]
                falls += found[1]
        self.assertGreater(lines, 200)
        self.assertGreater(falls, 100)

    def test_a_refusal_changes_nothing(self):
        works = read_works(TWO)
        made = LinedDam(works, {"a": [thing(1)], "b": [thing(5)]}, [1, 1, 1])
        made.call()
        do_all(made, ("line", "a"), ("tell", "a"), ("take", 0))
        before = look(made, works)
        for move in [("take", 0), ("line", "a"), ("line", "p"), ("give", 1), ("tell", "a"), ("x", "y"), ("take", "0")]:
            self.assertRaises(NoMove, made.do, move)
            self.assertEqual(look(made, works), before)


if __name__ == "__main__":
    unittest.main()

import copy
import unittest

from helpers import mark, thing
from rowdam.errors import NoIn, NoItem, NoMove, NoRoom, TooMuch
from rowdam.machine import Dam
from rowdam.things import LAST
from rowdam.works import pipes_of, read_works

NO_ROOMS = [0, 101, -1, True, False, None, "1", "", [], [1], (1,), {}, 1.5]


def dam(text, rows=None, rooms=None, room=1):
    works = read_works(text)
    if rooms is None:
        rooms = [room] * len(pipes_of(works))
    return Dam(works, {} if rows is None else rows, rooms)


def do_all(made, *moves):
    for move in moves:
        made.do(move)


class Made(unittest.TestCase):
    text = "in a\nin b\njoin c a b 0 v\nout o c"
    works = read_works(text)

    def test_refusals_and_which_comes_first(self):
        many = [mark(1)] * 100
        for kind, rows, rooms in [
            (NoIn, {"x": [], "a": [None]}, []),
            (NoIn, {"c": []}, [1, 1, 1]),
            (NoIn, {"o": [], "a": many, "b": many}, [1, 1, 1]),
            (NoItem, {"a": [None], "b": many}, []),
            (NoItem, {"a": many + [None], "b": many}, [0, 1, 1]),
            (TooMuch, {"a": many, "b": many}, []),
            (TooMuch, {"a": many, "b": many}, [1, 1, 1]),
            (NoRoom, {"a": many}, []),
        ]:
            with self.subTest(kind=kind):
                self.assertRaises(kind, Dam, self.works, rows, rooms)

    def test_the_place_of_a_wrong_item(self):
        with self.assertRaises(NoItem) as taken:
            Dam(self.works, {"b": [None], "a": [mark(1), ("mark", -1)]}, [])
        self.assertEqual(taken.exception.at, 1)

    def test_rooms(self):
        for rooms in [[1, 1, 1], [100, 100, 100], [1, 100, 50]]:
            made = Dam(self.works, {}, rooms)
            self.assertEqual([made.counts(pipe) for pipe in range(3)], [(room, 0, 0) for room in rooms])

    def test_more_and_fewer_rooms(self):
        for rooms in [[], [1], [1, 1], [1, 1, 1, 1], [0], [None] * 4]:
            self.assertRaises(NoRoom, Dam, self.works, {}, rooms)
        self.assertRaises(NoRoom, dam, "in a", {}, [1])
        self.assertEqual(dam("in a", {}, []).moves(), [("draw", "a")])

    def test_rooms_that_are_none(self):
        for room in NO_ROOMS:
            for at in range(3):
                rooms = [1, 1, 1]
                rooms[at] = room
                with self.subTest(rooms=rooms):
                    self.assertRaises(NoRoom, Dam, self.works, {}, rooms)

    def test_at_first(self):
        made = Dam(self.works, {"a": [thing(1)]}, [1, 2, 3])
        self.assertEqual([made.tray(name) for name in "abco"], [[], [], [], []])
        self.assertEqual([made.inside(pipe) for pipe in range(3)], [[], [], []])
        self.assertEqual([made.drawn(name) for name in "ab"], [0, 0])
        self.assertEqual([made.late(name) for name in "ab"], [[], []])
        self.assertEqual(made.told("o"), [])
        self.assertEqual([made.state(name) for name in "abco"], [([0], [0]), ([0], [0]), ([0, 0], []), ([0], [])])
        self.assertEqual(made.moves(), [("draw", "a"), ("draw", "b")])

    def test_an_in_that_is_not_named_has_no_items(self):
        made = Dam(self.works, {"a": [thing(1)]}, [1, 1, 1])
        do_all(made, ("draw", "b"))
        self.assertEqual((made.tray("b"), made.drawn("b"), made.state("b")), ([mark(LAST)], 1, ([LAST], [1])))

    def test_what_is_handed_in_and_changed_behind_changes_nothing(self):
        works = read_works("in a\nin b\npour c a b\nout o c")
        rows = {"a": [thing(1), thing(2)], "b": [thing(3)]}
        rooms = [2, 3, 4]
        made = Dam(works, rows, rooms)
        works.clear()
        rows["a"].clear()
        rows["b"][0] = thing(9)
        rows["a"].append(None)
        rows.clear()
        rooms[0] = 50
        rooms.clear()
        self.assertEqual([made.counts(pipe) for pipe in range(3)], [(2, 0, 0), (3, 0, 0), (4, 0, 0)])
        made.rest()
        self.assertEqual(sorted(made.told("o")), [(1, "a", 1), (2, "a", 1), (3, "a", 1)])
        self.assertEqual(made.drawn("a"), 3)
        self.assertEqual(made.late("a"), [])

    def test_what_is_handed_in_stays(self):
        works, rows, rooms = read_works(self.text), {"a": [thing(1)], "b": [mark(2), thing(1)]}, [1, 1, 1]
        before = copy.deepcopy((works, rows, rooms))
        Dam(works, rows, rooms).rest()
        self.assertEqual((works, rows, rooms), before)


class Moves(unittest.TestCase):
    def test_a_draw_and_a_tell(self):
        made = dam("in a\nout o a", {"a": [thing(1)]})
        self.assertEqual(made.moves(), [("draw", "a")])
        self.assertIsNone(made.do(("draw", "a")))
        self.assertEqual((made.tray("a"), made.drawn("a")), ([thing(1)], 1))
        self.assertEqual(made.moves(), [("tell", "a")])
        made.do(("tell", "a"))
        self.assertEqual((made.tray("a"), made.inside(0), made.counts(0)), ([], [thing(1)], (0, 1, 0)))
        self.assertEqual(made.moves(), [("draw", "a"), ("take", 0)])
        made.do(("draw", "a"))
        self.assertEqual(made.tray("a"), [mark(LAST)])
        self.assertEqual(made.moves(), [("take", 0)])
        made.do(("take", 0))
        self.assertEqual((made.inside(0), made.counts(0), made.told("o")), ([], (0, 0, 1), [(1, "a", 1)]))
        self.assertEqual(made.moves(), [("give", 0)])
        made.do(("give", 0))
        self.assertEqual(made.counts(0), (1, 0, 0))
        self.assertEqual(made.moves(), [("tell", "a")])
        do_all(made, ("tell", "a"), ("take", 0))
        self.assertEqual(made.state("o"), ([LAST], [(1, "a", 1)]))
        do_all(made, ("give", 0))
        self.assertEqual(made.moves(), [])

    def test_a_draw_that_tells_nothing(self):
        made = dam("in a\nout o a", {"a": [mark(5), thing(4), mark(3)]})
        do_all(made, ("draw", "a"), ("tell", "a"), ("draw", "a"))
        self.assertEqual((made.tray("a"), made.drawn("a"), made.late("a")), ([], 2, [(4, "a", 1)]))
        do_all(made, ("draw", "a"))
        self.assertEqual((made.tray("a"), made.drawn("a"), made.late("a")), ([], 3, [(4, "a", 1)]))

    def test_the_order_of_moves(self):
        made = dam("in a\nin b\npour p a b\nout o p", {"a": [thing(1)] * 5, "b": [thing(2)] * 5}, room=5)
        do_all(made, ("draw", "b"), ("tell", "b"), ("draw", "b"), ("tell", "b"), ("draw", "b"))
        do_all(made, ("draw", "a"), ("tell", "a"), ("draw", "a"), ("tell", "a"))
        self.assertEqual(made.moves(), [("draw", "a"), ("tell", "b"), ("take", 0), ("take", 1)])
        do_all(made, ("take", 1))
        self.assertEqual(made.moves(), [("draw", "a"), ("tell", "b"), ("tell", "p"), ("give", 1)])
        do_all(made, ("tell", "p"), ("take", 2), ("take", 0), ("tell", "p"))
        self.assertEqual(made.moves(), [
            ("draw", "a"), ("tell", "b"), ("take", 0), ("give", 0), ("take", 1), ("give", 1), ("take", 2), ("give", 2),
        ])

    def test_pipes_are_taken_by_number_also_from_ten_on(self):
        text = "in a\n" + "\n".join(f"out o{k} a" for k in range(12))
        made = dam(text, {"a": [thing(1)]})
        do_all(made, ("draw", "a"), ("tell", "a"), ("draw", "a"))
        self.assertEqual(made.moves(), [("take", pipe) for pipe in range(12)])

    def test_a_tell_into_several_pipes_one_of_them_without_a_right(self):
        made = dam("in a\nout o a\nout p a", {"a": [thing(1), thing(2)]}, [2, 1])
        do_all(made, ("draw", "a"), ("tell", "a"), ("draw", "a"))
        self.assertEqual([made.inside(0), made.inside(1)], [[thing(1)], [thing(1)]])
        self.assertEqual(made.moves(), [("take", 0), ("take", 1)])
        self.assertRaises(NoMove, made.do, ("tell", "a"))
        self.assertEqual([made.inside(0), made.inside(1), made.tray("a")], [[thing(1)], [thing(1)], [thing(2)]])
        do_all(made, ("take", 1))
        self.assertEqual(made.moves(), [("take", 0), ("give", 1)])
        do_all(made, ("give", 1))
        self.assertEqual(made.moves(), [("tell", "a"), ("take", 0)])
        do_all(made, ("tell", "a"))
        self.assertEqual([made.inside(0), made.inside(1)], [[thing(1), thing(2)], [thing(2)]])

    def test_a_row_that_no_pipe_leads_out_of(self):
        made = dam("in a\nkeep k a = 1 1", {"a": [thing(1)]})
        do_all(made, ("draw", "a"), ("tell", "a"), ("take", 0))
        self.assertEqual(made.tray("k"), [thing(1)])
        self.assertIn(("tell", "k"), made.moves())
        do_all(made, ("tell", "k"))
        self.assertEqual(made.tray("k"), [])
        made = dam("in a", {"a": [thing(1)]})
        self.assertEqual(made.rest(), 4)
        self.assertEqual(made.state("a"), ([LAST], [2]))

    def test_a_from_that_stands_twice(self):
        made = dam("in a\njoin j a a 0 - v w\nout o j", {"a": [thing(1, "a", 5)]})
        do_all(made, ("draw", "a"), ("tell", "a"))
        self.assertEqual([made.inside(0), made.inside(1)], [[thing(1, "a", 5)], [thing(1, "a", 5)]])
        self.assertEqual(made.moves(), [("draw", "a"), ("take", 0), ("take", 1)])
        do_all(made, ("take", 1))
        self.assertEqual(made.state("j"), ([0, 0], [(1, 1, "a", 5)]))
        do_all(made, ("take", 0))
        self.assertEqual(made.tray("j"), [thing(1, "a", 0)])

    def test_no_take_while_the_stations_tray_is_not_empty(self):
        made = dam("in a\nin b\npour p a b\nout o p", {"a": [thing(1)], "b": [thing(2)]})
        do_all(made, ("draw", "a"), ("tell", "a"), ("draw", "b"), ("tell", "b"), ("take", 0))
        self.assertEqual(made.tray("p"), [thing(1)])
        self.assertNotIn(("take", 1), made.moves())
        self.assertRaises(NoMove, made.do, ("take", 1))
        do_all(made, ("tell", "p"))
        self.assertIn(("take", 1), made.moves())

    def test_several_items_of_one_take(self):
        made = dam("in a\nfixed f a 2 sum\nout o f", {"a": [thing(0, "b", 1), thing(1, "a", 2), thing(2, "c", 3)]}, room=9)
        for turn in range(4):
            do_all(made, ("draw", "a"), ("tell", "a"), ("take", 0))
        told = [thing(1, "a", 2), thing(1, "b", 1), thing(3, "c", 3), mark(LAST)]
        self.assertEqual(made.tray("f"), told)
        do_all(made, ("tell", "f"))
        self.assertEqual((made.tray("f"), made.inside(1)), (told[1:], told[:1]))

    def test_no_moves(self):
        made = dam("in a\nin b\npour p a b\nout o p", {"a": [thing(1)]})
        do_all(made, ("draw", "a"))
        before = self.look(made)
        for move in [
            ("draw", "a"), ("draw", "p"), ("draw", "o"), ("draw", "x"), ("draw", ""), ("draw", 0), ("tell", "b"),
            ("tell", "p"), ("tell", "o"), ("tell", "x"), ("tell", 0), ("tell", "0"), ("take", 0), ("take", 1),
            ("take", 3), ("take", 4), ("take", -1), ("take", 10**30), ("take", "0"), ("take", "a"), ("give", 0),
            ("give", 2), ("give", 3), ("give", -1), ("give", "0"), ("give", "a"), ("line", "a"), ("line", "b"),
            ("put", 0), ("", ""), ("", 0), ("Draw", "b"), ("draw ", "b"), ("tell a", "a"), ("fall", 0), ("rest", "a"),
        ]:
            with self.subTest(move=move):
                self.assertRaises(NoMove, made.do, move)
                self.assertEqual(self.look(made), before)
        do_all(made, ("tell", "a"))
        before = self.look(made)
        for move in [("take", False), ("take", "0"), ("give", 0), ("tell", "a"), ("take", -3)]:
            self.assertRaises(NoMove, made.do, move)
            self.assertEqual(self.look(made), before)
        do_all(made, ("take", 0))

    def test_no_draw_behind_the_end(self):
        made = dam("in a", {"a": []})
        do_all(made, ("draw", "a"))
        self.assertRaises(NoMove, made.do, ("draw", "a"))
        do_all(made, ("tell", "a"))
        self.assertRaises(NoMove, made.do, ("draw", "a"))
        self.assertEqual(made.moves(), [])

    def look(self, made):
        names = ["a", "b", "p", "o"]
        rows = [(made.tray(name), made.state(name)) for name in names]
        pipes = [(made.inside(pipe), made.counts(pipe)) for pipe in range(3)]
        return rows, pipes, made.moves(), made.told("o"), made.drawn("a"), made.late("a")


class Rest(unittest.TestCase):
    text = "in a\nin b\nkeep k a < v 9\njoin j k b 3 + v w\nslide s j 4 2 sum\nout o s\nout p j"
    rows = {"a": [thing(1), mark(2), thing(4, "b"), thing(1)], "b": [thing(2), thing(3, "b", 7), mark(6), thing(5)]}

    def test_the_first_of_the_moves_each_time(self):
        for room in [1, 2, 30]:
            one = dam(self.text, self.rows, room=room)
            other = dam(self.text, self.rows, room=room)
            many = 0
            while other.moves():
                other.do(other.moves()[0])
                many += 1
            self.assertEqual(one.rest(), many)
            self.assertEqual(one.told("o"), other.told("o"))
            self.assertEqual(one.told("p"), other.told("p"))
            self.assertEqual(one.rest(), 0)
            self.assertEqual(one.moves(), [])

    def test_from_anywhere(self):
        whole = dam(self.text, self.rows)
        many = whole.rest()
        for stop in range(many + 1):
            made = dam(self.text, self.rows)
            for turn in range(stop):
                made.do(made.moves()[0])
            self.assertEqual(made.rest(), many - stop)
            self.assertEqual(made.told("p"), whole.told("p"))

    def test_how_many(self):
        # Two draws, and for each of two items a tell, a take and a give.
        self.assertEqual(dam("in a\nout o a", {"a": [thing(1)]}).rest(), 8)
        self.assertEqual(dam("in a\nout o a", {"a": [mark(0)]}).rest(), 5)


class Fields(unittest.TestCase):
    def test_state_of_every_kind_of_row(self):
        text = "in a\nkeep k a = 1 1\nturn t a v\nshare s a 0 1\npour p a a\nfixed f a 5 sum\nslide l a 4 2 count\n" \
            "gap g a 3 most\njoin j a a 2 + v w\nout o a"
        made = dam(text, {"a": [thing(3, "b", 7), mark(2)]}, room=5)
        do_all(made, ("draw", "a"), ("tell", "a"), ("draw", "a"), ("tell", "a"))
        moves = [move for move in made.moves() if move != ("draw", "a")]
        while moves:
            made.do(moves[0])
            moves = [move for move in made.moves() if move != ("draw", "a")]
        self.assertEqual({name: made.state(name) for name in "aktspflgjo"}, {
            "a": ([2], [2]), "k": ([2], []), "t": ([2], []), "s": ([2], []), "p": ([2, 2], []),
            "f": ([2], [(5, "b", 7)]), "l": ([2], [(4, "b", 1), (6, "b", 1)]), "g": ([2], [(3, 3, "b", 7)]),
            "j": ([2, 2], [(0, 3, "b", 7), (1, 3, "b", 7)]), "o": ([2], [(3, "b", 7)]),
        })

    def test_drawn_and_late(self):
        made = dam("in a\nout o a", {"a": [mark(5), thing(4, "x", 1), thing(5), thing(1, "y", 2)]}, room=9)
        found = []
        for turn in range(5):
            do_all(made, ("draw", "a"))
            found.append((made.drawn("a"), made.late("a")))
            if made.tray("a"):
                do_all(made, ("tell", "a"))
        late = [(4, "x", 1), (1, "y", 2)]
        self.assertEqual(found, [(1, []), (2, late[:1]), (3, late[:1]), (4, late), (5, late)])

    def test_what_is_told_is_the_askers_own(self):
        made = dam("in a\nin b\npour p a b\nout o p", {"a": [thing(1), mark(3), thing(2)], "b": [thing(4)]}, room=3)
        do_all(made, ("draw", "a"), ("tell", "a"), ("draw", "a"), ("tell", "a"), ("draw", "a"), ("draw", "b"), ("tell", "b"))
        do_all(made, ("take", 1), ("tell", "p"), ("take", 2), ("draw", "b"), ("take", 0))

        def all_told():
            found = [made.moves(), made.told("o"), made.late("a")]
            found += [made.tray(name) for name in "abpo"]
            found += [made.inside(pipe) for pipe in range(3)]
            for name in "abpo":
                found += list(made.state(name))
            return found

        before = copy.deepcopy(all_told())
        told = all_told()
        self.assertEqual(len({id(part) for part in told}), len(told))
        for part in told:
            part.insert(0, "x")
            part.append("y")
        self.assertEqual(all_told(), before)
        for part in all_told():
            part.clear()
        self.assertEqual(all_told(), before)
        self.assertEqual((made.counts(0), made.drawn("a")), ((1, 1, 1), 3))

    def test_an_outs_tray_is_empty(self):
        made = dam("in a\nout o a", {"a": [thing(1)]})
        made.tray("o").append(thing(9))
        do_all(made, ("draw", "a"), ("tell", "a"), ("take", 0))
        self.assertEqual(made.tray("o"), [])
        self.assertEqual(made.told("o"), [(1, "a", 1)])


if __name__ == "__main__":
    unittest.main()

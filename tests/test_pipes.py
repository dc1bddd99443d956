import random
import unittest

from rowdam.errors import Bare, Full, NoRoom
from rowdam.pipes import Pipe


class Rooms(unittest.TestCase):
    def test_rooms(self):
        for room in [1, 2, 50, 99, 100]:
            pipe = Pipe(room)
            self.assertEqual((pipe.room, pipe.rights, pipe.owed, pipe.inside()), (room, room, 0, []))

    def test_no_rooms(self):
        for room in [
            0, 101, -1, -100, 10**30, True, False, None, "", "1", "one", [], [1], (), (1,), {}, {1: 1}, 1.0, 0.5, b"1",
            {1}, object(), Pipe, Pipe(1),
        ]:
            with self.subTest(room=room):
                self.assertRaises(NoRoom, Pipe, room)


class Pipes(unittest.TestCase):
    def stands(self, pipe, rights, inside, owed):
        self.assertEqual((pipe.rights, pipe.inside(), pipe.owed), (rights, inside, owed))
        self.assertEqual(pipe.rights + len(pipe.inside()) + pipe.owed, pipe.room)

    def test_put_to_the_last_right_and_one_more(self):
        for room in [1, 3, 100]:
            pipe = Pipe(room)
            for place in range(room):
                self.assertIsNone(pipe.put(place))
                self.stands(pipe, room - place - 1, list(range(place + 1)), 0)
            for again in range(2):
                self.assertRaises(Full, pipe.put, "more")
                self.stands(pipe, 0, list(range(room)), 0)

    def test_take_and_give_of_nothing(self):
        pipe = Pipe(2)
        for again in range(2):
            self.assertRaises(Bare, pipe.take)
            self.stands(pipe, 2, [], 0)
            self.assertRaises(Bare, pipe.give)
            self.stands(pipe, 2, [], 0)
        pipe.put("x")
        self.assertRaises(Bare, pipe.give)
        self.stands(pipe, 1, ["x"], 0)
        pipe.take()
        self.assertRaises(Bare, pipe.take)
        self.stands(pipe, 1, [], 1)
        pipe.give()
        self.assertRaises(Bare, pipe.give)
        self.stands(pipe, 2, [], 0)

    def test_what_was_put_first_is_taken_first(self):
        pipe = Pipe(3)
        for item in "abc":
            pipe.put(item)
        self.assertEqual(pipe.take(), "a")
        self.stands(pipe, 0, ["b", "c"], 1)
        self.assertEqual(pipe.take(), "b")
        self.stands(pipe, 0, ["c"], 2)
        self.assertEqual(pipe.take(), "c")
        self.stands(pipe, 0, [], 3)

    def test_a_taken_ones_right_is_not_yet_a_right(self):
        pipe = Pipe(1)
        pipe.put("a")
        pipe.take()
        self.assertRaises(Full, pipe.put, "b")
        self.stands(pipe, 0, [], 1)
        self.assertEqual(pipe.give(), 1)
        self.stands(pipe, 1, [], 0)
        pipe.put("b")
        self.stands(pipe, 0, ["b"], 0)

    def test_all_owed_rights_are_given(self):
        pipe = Pipe(5)
        for item in range(5):
            pipe.put(item)
        for item in range(3):
            pipe.take()
        self.assertEqual(pipe.give(), 3)
        self.stands(pipe, 3, [3, 4], 0)
        pipe.take()
        self.assertEqual(pipe.give(), 1)
        self.stands(pipe, 4, [4], 0)

    def test_in_any_order_again_and_again(self):
        chance = random.Random(4)
        for room in [1, 2, 7]:
            pipe = Pipe(room)
            rights, inside, owed = room, [], 0
            for turn in range(400):
                what = chance.choice(["put", "take", "give"])
                if what == "put" and rights:
                    pipe.put(turn)
                    rights, inside = rights - 1, inside + [turn]
                elif what == "put":
                    self.assertRaises(Full, pipe.put, turn)
                elif what == "take" and inside:
                    self.assertEqual(pipe.take(), inside[0])
                    inside, owed = inside[1:], owed + 1
                elif what == "take":
                    self.assertRaises(Bare, pipe.take)
                elif owed:
                    self.assertEqual(pipe.give(), owed)
                    rights, owed = rights + owed, 0
                else:
                    self.assertRaises(Bare, pipe.give)
                self.stands(pipe, rights, inside, owed)
                self.assertEqual(pipe.room, room)

    def test_whatever_is_put_is_told_as_it_is(self):
        items = [[1], {"a": [2]}, (), None, True, 0, "", ("thing", 1, "a", 1), [1]]
        pipe = Pipe(len(items))
        for item in items:
            pipe.put(item)
        for told in [pipe.inside(), pipe.inside(), [pipe.take() for item in items]]:
            self.assertEqual(len(told), len(items))
            for one, other in zip(told, items):
                self.assertIs(one, other)

    def test_inside_is_a_new_list_each_time(self):
        pipe = Pipe(2)
        pipe.put("a")
        self.assertIsNot(pipe.inside(), pipe.inside())
        pipe.inside().clear()
        pipe.inside().append("b")
        self.stands(pipe, 1, ["a"], 0)

    def test_two_pipes_are_apart(self):
        one, other = Pipe(2), Pipe(2)
        one.put("a")
        self.stands(other, 2, [], 0)


if __name__ == "__main__":
    unittest.main()

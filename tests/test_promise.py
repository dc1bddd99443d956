import random
import unittest

from helpers import WORDS, check_pipes, check_rest, come_to_rest, is_at_rest, is_something_left
from helpers import random_rooms, random_works_and_rows
from rowdam.machine import Dam
from rowdam.plain import plain
from rowdam.works import outs_of, pipes_of


def weights(chance, words):
    """One of several ways to choose among moves: by any of them, or with a liking for some words."""
    liked = {word: chance.choice([0.05, 1, 1, 8]) for word in words}
    return lambda move: liked[move[0]]


class WithoutLines(unittest.TestCase):
    def run_one(self, chance, works, rows, rooms):
        made = Dam(works, rows, rooms)
        weight = weights(chance, ["draw", "tell", "take", "give"])
        many = 0
        while True:
            check_pipes(self, made, works, rooms)
            moves = made.moves()
            self.assertEqual(bool(moves), is_something_left(made, works, rows))
            if is_at_rest(made):
                check_rest(self, made, works, rows)
            if not moves:
                break
            if chance.random() < 0.02:
                come_to_rest(chance, made)
            else:
                made.do(chance.choices(moves, [weight(move) for move in moves])[0])
            many += 1
            self.assertLess(many, 30000)
        check_rest(self, made, works, rows)
        read = plain(works, rows)
        for name in outs_of(works):
            self.assertEqual(sorted(made.told(name)), read[name][0])

    def test_small_works_of_every_kind_of_row(self):
        chance = random.Random(11)
        words = {}
        for turn in range(250):
            works, rows = random_works_and_rows(chance)
            for row in works:
                words[row[0]] = words.get(row[0], 0) + 1
            with self.subTest(turn=turn, works=works, rows=rows):
                self.run_one(chance, works, rows, random_rooms(chance, works))
        for word in WORDS + ["in"]:
            self.assertGreater(words[word], 10)

    def test_the_same_at_rest_by_any_rooms_and_orders(self):
        chance = random.Random(12)
        for turn in range(40):
            works, rows = random_works_and_rows(chance)
            first = Dam(works, rows, [1] * len(pipes_of(works)))
            first.rest()
            for again in range(3):
                other = Dam(works, rows, random_rooms(chance, works))
                while other.moves():
                    other.do(chance.choice(other.moves()))
                for row in works:
                    if row[0] == "out":
                        self.assertEqual(sorted(other.told(row[1])), sorted(first.told(row[1])))
                        self.assertEqual(other.state(row[1])[0], first.state(row[1])[0])
                    else:
                        self.assertEqual(other.state(row[1]), first.state(row[1]))


if __name__ == "__main__":
    unittest.main()

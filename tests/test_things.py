import copy
import unittest

from rowdam.things import LAST, MOST_TIME, MOST_VALUE, is_item, is_key, is_whole, key_number

LETTERS = "abcdefghijklmnopqrstuvwxyz"
NO_LETTERS = ["A", "Z", "0", "9", " ", "\n", "\t", "_", "-", "`", "{", "\u00e4", "\u0430"]
NO_WHOLE = [True, False, None, "", "1", "a", [], [1], (), (1,), {}, {1: 2}]


class Cases(unittest.TestCase):
    def tells(self, asked, values, answer):
        for value in values:
            with self.subTest(value=value):
                self.assertIs(asked(value), answer)


class Bounds(unittest.TestCase):
    def test_the_bounds(self):
        self.assertEqual(MOST_TIME, 10**12)
        self.assertEqual(MOST_VALUE, 10**60)
        self.assertEqual(LAST, 10**15)


class Wholes(Cases):
    def test_whole_numbers(self):
        self.tells(is_whole, [0, 1, -1, 10**12, -(10**60) - 1, 10**5000], True)

    def test_all_else_is_none(self):
        self.tells(is_whole, NO_WHOLE, False)


class Keys(Cases):
    def test_keys(self):
        self.tells(is_key, ["a", "z", "aa", "thing", "abcdefgh", "zzzzzzzz"] + list(LETTERS), True)

    def test_too_short_or_too_long(self):
        self.tells(is_key, ["", "abcdefghi", "aaaaaaaaa", "a" * 100], False)

    def test_another_sign_at_any_place(self):
        for sign in NO_LETTERS:
            for many in range(8):
                for place in range(many + 1):
                    text = "k" * place + sign + "k" * (many - place)
                    with self.subTest(text=text):
                        self.assertIs(is_key(text), False)

    def test_a_sign_behind_the_eighth_letter(self):
        self.tells(is_key, ["abcdefgh" + sign for sign in NO_LETTERS], False)

    def test_other_kinds(self):
        self.tells(is_key, [0, 1, True, False, None, [], ["a"], (), ("a",), {}, {"a": "a"}], False)


class Items(Cases):
    def test_times(self):
        for time in [0, 1, MOST_TIME - 1, MOST_TIME]:
            self.tells(is_item, [("mark", time), ("thing", time, "a", 0)], True)
        for time in [-1, MOST_TIME + 1, LAST, -MOST_TIME]:
            self.tells(is_item, [("mark", time), ("thing", time, "a", 0)], False)

    def test_values(self):
        for value in [-MOST_VALUE, 1 - MOST_VALUE, -1, 0, 1, MOST_VALUE - 1, MOST_VALUE]:
            self.tells(is_item, [("thing", 3, "a", value)], True)
        for value in [-MOST_VALUE - 1, MOST_VALUE + 1, 10**5000]:
            self.tells(is_item, [("thing", 3, "a", value)], False)

    def test_keys(self):
        self.tells(is_item, [("thing", 3, key, 5) for key in ["a", "zz", "abcdefgh"]], True)
        self.tells(is_item, [("thing", 3, key, 5) for key in ["", "A", "a1", "a\n", "\na", "a ", "abcdefghi"]], False)

    def test_a_part_more_or_less(self):
        self.tells(is_item, [(), ("mark",), ("mark", 3, 4), ("mark", 3, "a", 5), ("mark", 3, "a")], False)
        self.tells(is_item, [("thing",), ("thing", 3), ("thing", 3, "a"), ("thing", 3, "a", 5, 6)], False)
        self.tells(is_item, [(3, "a", 5), (3,)], False)

    def test_another_word_ahead(self):
        for word in ["", "Thing", "things", "thing ", "thing\n", "item", "line", "Mark", "marks", " mark", 3, None]:
            self.tells(is_item, [(word, 3), (word, 3, "a", 5)], False)
        self.tells(is_item, [("line", 1), (["mark"], 3), ({}, 3), (("mark",), 3)], False)

    def test_parts_of_other_kinds(self):
        for part in NO_WHOLE:
            self.tells(is_item, [("mark", part), ("thing", part, "a", 5), ("thing", 3, "a", part)], False)
        for part in [0, 3, True, False, None, [], ["a"], (), ("a",), {}, {"a": 1}]:
            self.tells(is_item, [("thing", 3, part, 5)], False)

    def test_lists_in_the_place_of_tuples(self):
        self.tells(is_item, [["mark", 3], ["thing", 3, "a", 5], [("mark", 3)], (("mark", 3),)], False)

    def test_other_kinds(self):
        self.tells(is_item, [0, 3, True, False, None, "", "mark", "mark 3", "thing 3 a 5", [], {}, {"mark": 3}], False)
        self.tells(is_item, [{0: "mark", 1: 3}], False)

    def test_what_is_handed_in_stays(self):
        asked = [("thing", [3], {"a": 1}, [5]), ["mark", 3], {"mark": [3]}]
        before = copy.deepcopy(asked)
        for x in asked:
            is_whole(x), is_key(x), is_item(x)
        self.assertEqual(asked, before)


class KeyNumbers(unittest.TestCase):
    def test_single_letters(self):
        self.assertEqual([key_number(letter) for letter in LETTERS], list(range(26)))

    def test_the_last_letter_is_the_lowest(self):
        for key, number in [("ba", 26), ("ab", 1), ("az", 25), ("bz", 51), ("ca", 52), ("zz", 675), ("baa", 676)]:
            with self.subTest(key=key):
                self.assertEqual(key_number(key), number)

    def test_eight_letters(self):
        self.assertEqual(key_number("aaaaaaaa"), 0)
        self.assertEqual(key_number("zzzzzzzz"), 26**8 - 1)
        self.assertEqual(key_number("baaaaaaa"), 26**7)
        self.assertEqual(key_number("abcdefgh"), sum(at * 26 ** (7 - at) for at in range(8)))

    def test_an_a_more_ahead_changes_nothing(self):
        for key in ["a", "z", "ba", "aa", "thing", "bcdefgh", "zzzzzzz"]:
            with self.subTest(key=key):
                self.assertEqual(key_number("a" + key), key_number(key))


if __name__ == "__main__":
    unittest.main()

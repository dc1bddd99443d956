import unittest

from rowdam.errors import NoItem
from rowdam.notes import read_item, show_item, show_thing, show_things
from rowdam.rows import check_row
from rowdam.things import LAST, MOST_TIME, MOST_VALUE

SHOWN = [
    (("thing", 0, "a", 0), "thing 0 a 0"),
    (("thing", 5, "abc", -7), "thing 5 abc -7"),
    (("thing", MOST_TIME, "zzzzzzzz", MOST_VALUE), "thing 1000000000000 zzzzzzzz 1" + "0" * 60),
    (("thing", 10, "a", -MOST_VALUE), "thing 10 a -1" + "0" * 60),
    (("thing", 10, "a", MOST_VALUE - 1), "thing 10 a " + "9" * 60),
    (("mark", 0), "mark 0"),
    (("mark", 10), "mark 10"),
    (("mark", MOST_TIME), "mark 1000000000000"),
]
NONE = [
    "", " ", "thing", "mark", "item 3", "thing ", "mark ", "Mark 3", "Thing 3 a 4", "things 3 a 4", "line 1", "3", "3 a 4",
    "mark 3 4", "mark 3 a 4", "thing 3", "thing 3 a", "thing 3 a 4 5", "thing 3 4", "thing a 3 4", "thing 3 4 a",
    " mark 3", "mark 3 ", "mark  3", " thing 3 a 4", "thing 3 a 4 ", "thing  3 a 4", "thing 3  a 4", "thing 3 a  4",
    "mark 03", "mark +3", "mark -3", "mark -0", "mark 00", "mark 3.0", "mark 3_0", "mark x", "mark -", "mark 3-",
    "thing 03 a 4", "thing +3 a 4", "thing -3 a 4", "thing -0 a 4", "thing 3 a 04", "thing 3 a +4", "thing 3 a -0",
    "thing 3 a --4", "thing 3 a -04", "thing 3 a -", "thing 3 a 00", "thing 3 a 4-", "thing 3 a 4_4",
    "mark 1000000000001", "mark 1" + "0" * 15, "thing 1000000000001 a 4", "thing 3 a 1" + "0" * 59 + "1",
    "thing 3 a -1" + "0" * 59 + "1", "thing 3 a 1" + "0" * 61, "thing 3 a 2" + "0" * 60, "thing 3 a -2" + "0" * 60,
    "mark " + "9" * 5000, "thing " + "9" * 5000 + " a 4", "thing 3 a " + "9" * 5000, "thing 3 a -" + "9" * 5000,
    "mark " + "0" * 5000, "thing 3 A 4", "thing 3 abcdefghi 4", "thing 3 a1 4", "thing 3 1 4", "thing 3 - 4",
    "mark 3\n", "\nmark 3", "mark\n3", "thing 3 a 4\n", "thing 3 a\n 4", "thing\t3 a 4", "mark 3\t", "mark 3;",
    "mark \u0663", "thing 3 a \u0664", "thing 3 \u00e4 4", "mark True", "mark None",
]


class Items(unittest.TestCase):
    def test_shown_and_read_again(self):
        for item, text in SHOWN:
            with self.subTest(text=text):
                self.assertEqual(show_item(item), text)
                found = read_item(text)
                self.assertEqual(found, item)
                self.assertIs(type(found), tuple)
                self.assertIsNone(check_row([found]))

    def test_texts_that_show_none(self):
        for text in NONE:
            with self.subTest(text=text[:40]):
                with self.assertRaises(NoItem) as taken:
                    read_item(text)
                self.assertEqual(taken.exception.at, 0)

    def test_at(self):
        for at in [0, 1, 7, 99]:
            with self.assertRaises(NoItem) as taken:
                read_item("mark", at)
            self.assertEqual(taken.exception.at, at)
            with self.assertRaises(NoItem) as taken:
                read_item("thing 3 a", at=at)
            self.assertEqual(taken.exception.at, at)
            self.assertEqual(read_item("mark 3", at), ("mark", 3))

    def test_items_beyond_the_ranges_are_shown(self):
        self.assertEqual(show_item(("mark", LAST)), "mark 1000000000000000")
        self.assertEqual(show_item(("thing", LAST, "a", -10**99)), f"thing {LAST} a -1" + "0" * 99)


class Things(unittest.TestCase):
    def test_one(self):
        self.assertEqual(show_thing((3, "ab", -4)), "3 ab -4")
        self.assertEqual(show_thing((0, "a", 0)), "0 a 0")
        self.assertEqual(show_thing((10**12, "z", 10**60)), "1000000000000 z 1" + "0" * 60)

    def test_of_many_figures(self):
        many = 10**3999
        self.assertEqual(show_thing((many, "a", -many)), "1" + "0" * 3999 + " a -1" + "0" * 3999)
        self.assertEqual(show_thing((5, "a", 10**4000 - 1)), "5 a " + "9" * 4000)

    def test_several(self):
        self.assertEqual(show_things([]), "")
        self.assertEqual(show_things([(3, "ab", -4)]), "3 ab -4")
        self.assertEqual(show_things([(3, "ab", -4), (1, "a", 0), (3, "ab", -4)]), "3 ab -4; 1 a 0; 3 ab -4")

    def test_what_is_handed_in_stays(self):
        things = [(3, "ab", -4), (1, "a", 0)]
        show_things(things)
        self.assertEqual(things, [(3, "ab", -4), (1, "a", 0)])


if __name__ == "__main__":
    unittest.main()

import copy
import unittest

from rowdam import errors
from rowdam.errors import DamError, NoItem
from rowdam.rows import check_row, read_row
from rowdam.things import LAST, MOST_TIME, MOST_VALUE

EXAMPLE = [("mark", 4), ("thing", 3, "b", 2), ("mark", 2), ("thing", 4, "a", 7)]
NO_ITEMS = [
    None, True, 0, "mark", "thing 3 a 5", [], (), {}, ["mark", 3], ["thing", 3, "a", 5], ("mark",), ("mark", -1),
    ("mark", MOST_TIME + 1), ("mark", LAST), ("mark", True), ("line", 1), ("thing", 3, "A", 5), ("thing", 3, "a", None),
    ("thing", 3, "a", MOST_VALUE + 1), ("thing", 3, "a", 5, 6), (3, "a", 5),
]
OTHER_REFUSALS = [
    "NoText", "NoName", "NoExpr", "NoIn", "TooMuch", "NoRoom", "Full", "Bare", "NoMove", "NoWide", "NoOrder",
]


def long_row(many):
    return [("thing", at, "a", at) for at in range(many)]


class Checked(unittest.TestCase):
    def refused_at(self, row):
        with self.assertRaises(NoItem) as taken:
            check_row(row)
        return taken.exception.at

    def test_rows_of_items_alone(self):
        marks = [("mark", 0), ("mark", MOST_TIME)]
        things = [("thing", 0, "a", -MOST_VALUE), ("thing", MOST_TIME, "z", MOST_VALUE)]
        for row in [[], EXAMPLE, [("mark", 3)], [("thing", 3, "a", 5)] * 2, marks + things, long_row(100)]:
            with self.subTest(row=row):
                self.assertIsNone(check_row(row))

    def test_one_wrong_place(self):
        for wrong in NO_ITEMS:
            for at in range(len(EXAMPLE) + 1):
                with self.subTest(wrong=wrong, at=at):
                    self.assertEqual(self.refused_at(EXAMPLE[:at] + [wrong] + EXAMPLE[at:]), at)

    def test_a_wrong_one_alone(self):
        self.assertEqual(self.refused_at([None]), 0)

    def test_the_last_of_a_hundred(self):
        self.assertEqual(self.refused_at(long_row(99) + [("mark", -1)]), 99)

    def test_the_first_of_several_wrong_places(self):
        good = ("mark", 3)
        self.assertEqual(self.refused_at([good, None, good, ["mark", 3], ("mark", -1)]), 1)
        self.assertEqual(self.refused_at([("mark", -1), good, None]), 0)
        self.assertEqual(self.refused_at([None, None, None]), 0)
        self.assertEqual(self.refused_at([good, good, (), None]), 2)

    def test_taken_as_any_refusal_and_as_value_error_but_as_no_other_refusal(self):
        for above in [DamError, ValueError]:
            with self.assertRaises(above):
                check_row([None])
        with self.assertRaises(NoItem) as taken:
            check_row([None])
        for name in OTHER_REFUSALS:
            with self.subTest(name=name):
                self.assertNotIsInstance(taken.exception, getattr(errors, name))

    def test_the_row_stays(self):
        for row in [list(EXAMPLE), [["mark", 3], None, {"a": [1]}]]:
            before = copy.deepcopy(row)
            try:
                check_row(row)
            except NoItem:
                pass
            self.assertEqual(row, before)


class Read(unittest.TestCase):
    def test_the_documents_example(self):
        self.assertEqual(read_row(EXAMPLE, 4), ([(4, "a", 7)], [(3, "b", 2)], 4))

    def test_each_number_of_draws(self):
        told = [
            ([], [], 0),
            ([], [], 4),
            ([], [(3, "b", 2)], 4),
            ([], [(3, "b", 2)], 4),
            ([(4, "a", 7)], [(3, "b", 2)], 4),
            ([(4, "a", 7)], [(3, "b", 2)], LAST),
        ]
        for many, answer in enumerate(told):
            with self.subTest(many=many):
                self.assertEqual(read_row(EXAMPLE, many), answer)

    def test_none_and_nothing_draw_to_the_end(self):
        for row in [EXAMPLE, [], [("mark", 3)], long_row(100)]:
            with self.subTest(row=row):
                self.assertEqual(read_row(row, None), read_row(row, len(row) + 1))
                self.assertEqual(read_row(row), read_row(row, len(row) + 1))
                self.assertEqual(read_row(row)[2], LAST)

    def test_many_by_its_name(self):
        self.assertEqual(read_row(row=EXAMPLE, many=1), ([], [], 4))

    def test_kinds_of_what_is_told(self):
        told = read_row(EXAMPLE, 4)
        self.assertEqual([type(part) for part in told], [list, list, int])
        self.assertIs(type(told), tuple)
        self.assertEqual([type(thing) for thing in told[0] + told[1]], [tuple, tuple])

    def test_at_the_mark_so_far_and_one_below(self):
        row = [("mark", 4), ("thing", 4, "a", 1), ("thing", 3, "a", 2), ("thing", 5, "a", 3)]
        self.assertEqual(read_row(row, 4), ([(4, "a", 1), (5, "a", 3)], [(3, "a", 2)], 4))

    def test_time_0_ahead_of_any_mark_and_behind_mark_0(self):
        row = [("thing", 0, "a", 1), ("mark", 0), ("thing", 0, "b", 2)]
        self.assertEqual(read_row(row, 3), ([(0, "a", 1), (0, "b", 2)], [], 0))

    def test_a_thing_makes_no_mark(self):
        row = [("thing", 9, "a", 1), ("thing", 2, "a", 2)]
        self.assertEqual(read_row(row, 2), ([(9, "a", 1), (2, "a", 2)], [], 0))

    def test_a_mark_below_an_earlier_one(self):
        row = [("mark", 7), ("mark", 3), ("thing", 5, "a", 1), ("mark", 7), ("thing", 7, "b", 2), ("mark", 8)]
        self.assertEqual(read_row(row, 2)[2], 7)
        self.assertEqual(read_row(row, 5), ([(7, "b", 2)], [(5, "a", 1)], 7))
        self.assertEqual(read_row(row, 6), ([(7, "b", 2)], [(5, "a", 1)], 8))

    def test_what_was_on_time_stays_so_behind_a_later_mark(self):
        row = [("thing", 2, "a", 1), ("mark", 9), ("thing", 2, "a", 1)]
        self.assertEqual(read_row(row, 3), ([(2, "a", 1)], [(2, "a", 1)], 9))

    def test_last_with_the_end_only(self):
        row = [("mark", MOST_TIME), ("thing", MOST_TIME, "a", 1)]
        self.assertEqual(read_row(row, 2), ([(MOST_TIME, "a", 1)], [], MOST_TIME))
        self.assertEqual(read_row(row, 3), ([(MOST_TIME, "a", 1)], [], LAST))

    def test_rows_without_items(self):
        self.assertEqual(read_row([], 0), ([], [], 0))
        self.assertEqual(read_row([], 1), ([], [], LAST))
        self.assertEqual(read_row([]), ([], [], LAST))

    def test_both_in_the_rows_order_and_alike_ones_each_for_themselves(self):
        things = [(5, "b", 1), (9, "a", 0), (5, "a", 1), (5, "b", 1)]
        items = [("thing",) + thing for thing in things]
        self.assertEqual(read_row(items, 4), (things, [], 0))
        self.assertEqual(read_row([("mark", 10)] + items, 5), ([], things, 10))

    def test_a_count_somewhat_beyond_is_not_refused(self):
        self.assertEqual(read_row(EXAMPLE, 7), read_row(EXAMPLE))
        self.assertEqual(read_row(EXAMPLE, -1), ([], [], 0))

    def test_the_row_stays(self):
        row = list(EXAMPLE)
        for many in [0, 2, 4, 5, None]:
            read_row(row, many)
        self.assertEqual(row, EXAMPLE)

    def test_what_is_told_is_the_askers_own(self):
        row = list(EXAMPLE)
        answer = ([(4, "a", 7)], [(3, "b", 2)], 4)
        told = read_row(row, 4)
        told[0].append("x")
        told[1].clear()
        self.assertEqual(row, EXAMPLE)
        self.assertEqual(read_row(row, 4), answer)
        for many in [0, 5, None]:
            on_time, late, mark = read_row([], many)
            on_time.append("x")
            self.assertEqual(late, [])
            self.assertEqual(read_row([], many), ([], [], mark))

    def test_changing_the_row_behind_the_call_changes_nothing_told(self):
        row = list(EXAMPLE)
        told = read_row(row, 4)
        row.clear()
        self.assertEqual(told, ([(4, "a", 7)], [(3, "b", 2)], 4))


if __name__ == "__main__":
    unittest.main()

import unittest

from rowdam import errors
from rowdam.errors import DamError, NoItem, NoName, NoText

WITH_PLACE = ["NoItem", "NoText", "NoName"]
WITHOUT_PLACE = ["NoExpr", "NoIn", "TooMuch", "NoRoom", "Full", "Bare", "NoMove", "NoWide", "NoOrder"]


class Classes(unittest.TestCase):
    def test_dam_error_stands_straight_under_value_error(self):
        self.assertEqual(DamError.__bases__, (ValueError,))

    def test_each_refusal_stands_straight_under_dam_error(self):
        for name in WITH_PLACE + WITHOUT_PLACE:
            with self.subTest(name=name):
                self.assertEqual(getattr(errors, name).__bases__, (DamError,))

    def test_no_refusal_stands_under_another(self):
        names = WITH_PLACE + WITHOUT_PLACE
        self.assertEqual(len(names), 12)
        for one in names:
            for other in names:
                if one != other:
                    with self.subTest(one=one, other=other):
                        self.assertFalse(issubclass(getattr(errors, one), getattr(errors, other)))


class Places(unittest.TestCase):
    def test_at_is_what_was_handed_in(self):
        for name in WITH_PLACE:
            for at in [0, 1, 7, 10**30]:
                with self.subTest(name=name, at=at):
                    self.assertEqual(getattr(errors, name)(at).at, at)

    def test_at_is_each_errors_own(self):
        first, second = NoItem(3), NoItem(4)
        self.assertEqual((first.at, second.at), (3, 4))

    def test_the_place_must_be_handed_in(self):
        for refusal in [NoItem, NoText, NoName]:
            with self.subTest(refusal=refusal.__name__):
                with self.assertRaises(TypeError):
                    refusal()

    def test_raised_and_taken_under_every_name_above(self):
        for name in WITH_PLACE:
            for above in [getattr(errors, name), DamError, ValueError]:
                with self.subTest(name=name, above=above.__name__):
                    with self.assertRaises(above) as taken:
                        raise getattr(errors, name)(5)
                    self.assertEqual(taken.exception.at, 5)

    def test_the_others_are_made_without_a_place(self):
        for name in WITHOUT_PLACE:
            for above in [getattr(errors, name), DamError, ValueError]:
                with self.subTest(name=name, above=above.__name__):
                    with self.assertRaises(above):
                        raise getattr(errors, name)()


if __name__ == "__main__":
    unittest.main()

import random
import unittest

from rowdam.errors import NoExpr
from rowdam.exprs import Cond, Expr, change_of, held, read_cond, read_expr, sieve_of

MOST = 10**60
NUMBERS = ["0", "1", "7", "10", "-1", "-10", "9" * 20, "-" + "9" * 20, "1" + "0" * 19, "-1" + "0" * 19]
NO_NUMBERS = [
    "", "-", "--1", "-0", "00", "01", "-01", "+1", "+0", "+", "1" * 21, "-" + "1" * 21, "1" + "0" * 20, "1.0", "1_0",
    "1e3", "0x1", "1-", " 1", "1 ", " ", "1\n", "\n1", "\t1", "\u0661", "1\u0662", "\u00b2", "\uff11", "True", "None",
    "a", "1a",
]
NO_WORDS = ["x", "T", "V", "tv", "vw", "tt", "min", "max", "/", "//", "**", "Least", "least ", ">", "==", "!", "<=", "+-"]


def expr(text, letters="tvw"):
    return read_expr(text.split(" "), letters)


def cond(text):
    return read_cond(text.split(" "))


class Numbers(unittest.TestCase):
    def test_numbers_are_their_numbers(self):
        for text in NUMBERS:
            with self.subTest(text=text):
                self.assertEqual(read_expr([text], "").value(5, 6, 7), int(text))

    def test_other_texts_are_refused(self):
        for text in NO_NUMBERS:
            for words in [[text], ["+", text, "1"], ["+", "1", text]]:
                with self.subTest(words=words):
                    self.assertRaises(NoExpr, read_expr, words, "tvw")

    def test_likewise_in_a_cond(self):
        for text in NUMBERS:
            self.assertIs(read_cond(["=", text, text]).holds(0, 0), True)
        for text in NO_NUMBERS:
            with self.subTest(text=text):
                self.assertRaises(NoExpr, read_cond, ["=", text, "1"])
                self.assertRaises(NoExpr, read_cond, ["=", "1", text])


class Exprs(unittest.TestCase):
    def test_the_documents_own(self):
        for time, value in [(0, 0), (10, 3), (3, 10), (10**12, -10**60)]:
            self.assertEqual(expr("- t * 2 v").value(time, value), time - 2 * value)

    def test_each_word(self):
        pairs = [(0, 0), (3, 5), (5, 3), (-3, 5), (3, -5), (-3, -5), (4, 4), (10**70, 10**71)]
        for v, w in pairs:
            with self.subTest(v=v, w=w):
                self.assertEqual(expr("+ v w").value(1, v, w), v + w)
                self.assertEqual(expr("- v w").value(1, v, w), v - w)
                self.assertEqual(expr("* v w").value(1, v, w), v * w)
                self.assertEqual(expr("least v w").value(1, v, w), min(v, w))
                self.assertEqual(expr("most v w").value(1, v, w), max(v, w))

    def test_each_letter(self):
        self.assertEqual(expr("t").value(5, 6, 7), 5)
        self.assertEqual(expr("v").value(5, 6, 7), 6)
        self.assertEqual(expr("w").value(5, 6, 7), 7)

    def test_the_other_value_is_0_where_it_is_not_told(self):
        self.assertEqual(expr("w").value(5, 6), 0)
        self.assertEqual(change_of(["w"], "tvw")(5, 6), 0)
        self.assertEqual(change_of(["w"], "tvw")(5, 6, 7), 7)

    def test_any_whole_numbers_may_be_asked_for(self):
        self.assertEqual(expr("+ t + v w").value(-10**80, 3, 10**90), -10**80 + 3 + 10**90)

    def test_letters_as_far_as_they_are_allowed(self):
        for letters in ["", "t", "v", "w", "tv", "tw", "vw", "tvw", "wvt"]:
            for letter in "tvw":
                for words in [[letter], ["+", "1", letter], ["least", letter, "1"]]:
                    with self.subTest(letters=letters, words=words):
                        if letter in letters:
                            self.assertEqual(read_expr(words, letters).words(), words)
                        else:
                            self.assertRaises(NoExpr, read_expr, words, letters)

    def test_several_letters_are_no_word(self):
        for word in ["tv", "vw", "tvw", ""]:
            self.assertRaises(NoExpr, read_expr, [word], "tvw")

    def test_deep_ones_to_the_left_and_to_the_right(self):
        for many in [1, 30, 5000]:
            left = ["-"] * many + ["v"] + ["1"] * many
            self.assertEqual(read_expr(left, "v").value(0, 10), 10 - many)
            right = ["-", "1"] * many + ["v"]
            self.assertEqual(read_expr(right, "v").value(0, 10), 10 if many % 2 == 0 else -9)

    def test_left_and_right_are_not_confused(self):
        self.assertEqual(expr("- - 10 3 2").value(0, 0), 5)
        self.assertEqual(expr("- 10 - 3 2").value(0, 0), 9)
        self.assertEqual(expr("- * 2 3 least 9 4").value(0, 0), 2)

    def test_numbers_get_as_large_as_they_get(self):
        words = ["*"] * 19 + ["v"] * 20
        self.assertEqual(read_expr(words, "v").value(0, MOST), MOST**20)
        self.assertEqual(read_expr(words[:-1] + ["-1"], "v").value(0, MOST), -MOST**19)

    def test_wrong_words(self):
        for text in NO_WORDS:
            for words in [[text], ["+", text, "1"], ["+", "1", text], [text, "1", "2"]]:
                with self.subTest(words=words):
                    self.assertRaises(NoExpr, read_expr, words, "tvw")

    def test_words_of_conds_are_none_of_exprs(self):
        for text in ["< 1 2", "= 1 2", "not < 1 2", "and = 1 1 = 1 1", "+ 1 < 1 2", "+ = 1 1 2", "not 1", "and 1 1"]:
            with self.subTest(text=text):
                self.assertRaises(NoExpr, expr, text)

    def test_none_too_many_and_too_few(self):
        self.assertRaises(NoExpr, read_expr, [], "tvw")
        for text in ["1 2", "t v", "+ 1 2 3", "- 1", "+", "* 1", "least", "most t", "+ + 1 2", "1 + 2", "1 2 +", "+ - 1"]:
            with self.subTest(text=text):
                self.assertRaises(NoExpr, expr, text)

    def test_words_are_told_as_they_were_read_each_time_anew(self):
        words = ["-", "t", "*", "2", "v"]
        found = read_expr(words, "tv")
        self.assertIsInstance(found, Expr)
        words[0] = "+"
        words.append("1")
        self.assertEqual(found.words(), ["-", "t", "*", "2", "v"])
        self.assertEqual(found.value(10, 3), 4)
        found.words().clear()
        self.assertEqual(found.words(), ["-", "t", "*", "2", "v"])
        self.assertIsInstance(found.words(), list)
        self.assertIsNot(found.words(), found.words())
        self.assertEqual(found.value(10, 3), 4)

    def test_what_is_handed_in_stays(self):
        words = ["-", "t", "*", "2", "v"]
        read_expr(words, "tv").value(1, 2)
        change_of(words, "tv")(1, 2)
        self.assertEqual(words, ["-", "t", "*", "2", "v"])


class Conds(unittest.TestCase):
    def test_less_and_same(self):
        for time in range(-2, 3):
            for value in range(-2, 3):
                with self.subTest(time=time, value=value):
                    self.assertIs(cond("< t v").holds(time, value), time < value)
                    self.assertIs(cond("< v t").holds(time, value), value < time)
                    self.assertIs(cond("= t v").holds(time, value), time == value)
                    self.assertIs(cond("= + t 1 * v v").holds(time, value), time + 1 == value * value)

    def test_not_and_or(self):
        true, false = "= 1 1", "< 1 1"
        for one in [true, false]:
            self.assertIs(cond(f"not {one}").holds(0, 0), one != true)
            self.assertIs(cond(f"not not {one}").holds(0, 0), one == true)
            for other in [true, false]:
                with self.subTest(one=one, other=other):
                    self.assertIs(cond(f"and {one} {other}").holds(0, 0), one == true and other == true)
                    self.assertIs(cond(f"or {one} {other}").holds(0, 0), one == true or other == true)

    def test_left_and_right_of_nested_ones(self):
        found = cond("or and < t 3 < v 3 not or = t 4 = v 4")
        for time in range(6):
            for value in range(6):
                holds = (time < 3 and value < 3) or not (time == 4 or value == 4)
                self.assertIs(found.holds(time, value), holds)

    def test_nothing_within_is_held(self):
        self.assertIs(cond("= v t").holds(10**61, 10**61), True)
        self.assertIs(cond("< t v").holds(10**60, 10**60 + 1), True)
        self.assertIs(cond("= * v v * t t").holds(10**60, 10**60 + 1), False)

    def test_deep_ones(self):
        for many in [1, 12, 4001]:
            self.assertIs(read_cond(["not"] * many + ["=", "1", "1"]).holds(0, 0), many % 2 == 0)
            left = ["and"] * many + ["=", "t", "t"] * (many + 1)
            self.assertIs(read_cond(left).holds(1, 0), True)
            right = ["or", "=", "1", "0"] * many + ["=", "v", "3"]
            self.assertIs(read_cond(right).holds(0, 3), True)
            self.assertIs(read_cond(right).holds(0, 4), False)

    def test_the_letter_w_is_not_allowed(self):
        for text in ["= w 1", "= 1 w", "< + w 1 t", "not < t w", "and = 1 1 = v w"]:
            with self.subTest(text=text):
                self.assertRaises(NoExpr, cond, text)

    def test_wrong_words(self):
        for text in NO_WORDS:
            for words in [[text], ["=", text, "1"], ["=", "1", text], [text, "1", "2"], [text, "=", "1", "1"]]:
                with self.subTest(words=words):
                    self.assertRaises(NoExpr, read_cond, words)

    def test_none_too_many_and_too_few(self):
        self.assertRaises(NoExpr, read_cond, [])
        for text in [
            "", "<", "< 1", "= t", "< 1 2 3", "= 1 2 = 1 2", "not", "not 1", "not not", "and = 1 1", "or = 1 1", "and",
            "not = 1 1 = 1 1", "and = 1 1 = 1 1 = 1 1", "1", "t", "+ 1 2", "< = 1 1 2", "= 1 < 1 2", "and 1 = 1 1",
            "or = 1 1 1", "= not = 1 1 1", "1 < 2", "1 2 <", "= 1 1 not", "+ = 1 1 1", "least = 1 1 = 1 1",
        ]:
            with self.subTest(text=text):
                self.assertRaises(NoExpr, cond, text)
                self.assertRaises(NoExpr, sieve_of, text.split(" "))

    def test_words_are_told_as_they_were_read_each_time_anew(self):
        words = ["<", "t", "5"]
        found = read_cond(words)
        self.assertIsInstance(found, Cond)
        words[2] = "0"
        self.assertEqual(found.words(), ["<", "t", "5"])
        self.assertIs(found.holds(3, 0), True)
        found.words().append("5")
        self.assertEqual(found.words(), ["<", "t", "5"])
        self.assertIsNot(found.words(), found.words())


class Held(unittest.TestCase):
    def test_held(self):
        for number in [0, 1, -1, MOST, -MOST, MOST - 1, 1 - MOST]:
            self.assertEqual(held(number), number)
        for above in [1, 2, 10**61]:
            self.assertEqual(held(MOST + above), MOST)
            self.assertEqual(held(-MOST - above), -MOST)

    def test_the_whole_value_is_held_by_change_of(self):
        change = change_of(["+", "v", "w"], "tvw")
        self.assertEqual(change(0, MOST, 0), MOST)
        self.assertEqual(change(0, MOST, 1), MOST)
        self.assertEqual(change(0, MOST, -1), MOST - 1)
        self.assertEqual(change(0, -MOST, 0), -MOST)
        self.assertEqual(change(0, -MOST, -1), -MOST)
        self.assertEqual(change(0, -MOST, 1), 1 - MOST)

    def test_nothing_within_is_held(self):
        change = change_of(["-", "*", "v", "v", "-", "*", "v", "v", "7"], "v")
        self.assertEqual(change(0, MOST), 7)
        self.assertEqual(change_of(["-", "v", "w"], "vw")(0, MOST + 5, MOST + 2), 3)

    def test_value_is_not_held(self):
        self.assertEqual(expr("+ v 1").value(0, MOST), MOST + 1)
        self.assertEqual(expr("- v 1").value(0, -MOST), -MOST - 1)
        self.assertEqual(expr("v").value(0, MOST * 10), MOST * 10)


class Functions(unittest.TestCase):
    def test_sieve_of(self):
        words = ["<", "t", "v"]
        sieve = sieve_of(words)
        words[0] = "="
        words.clear()
        self.assertIs(sieve(1, 2), True)
        self.assertIs(sieve(2, 2), False)
        self.assertIs(sieve(3, 2), False)

    def test_change_of(self):
        words = ["-", "t", "*", "2", "v"]
        change = change_of(words, "tv")
        words[0] = "+"
        self.assertEqual(change(10, 3), 4)
        self.assertEqual(change(10, 3, 99), 4)

    def test_both_refuse(self):
        for text in ["", "+ 1", "x", "1 2", "< 1 2"]:
            self.assertRaises(NoExpr, change_of, text.split(" "), "tvw")
        self.assertRaises(NoExpr, change_of, [], "tvw")
        self.assertRaises(NoExpr, change_of, ["w"], "tv")
        self.assertRaises(NoExpr, sieve_of, [])
        self.assertRaises(NoExpr, sieve_of, ["=", "w", "1"])


def random_expr(chance, depth, letters):
    """Words, and a function that tells the value in Python's own way."""
    if depth == 0 or chance.random() < 0.2:
        leaf = chance.choice(list(letters) + ["0", "5", "-7", "12345678901234567890"])
        if leaf in letters:
            return [leaf], lambda t, v, w: {"t": t, "v": v, "w": w}[leaf]
        return [leaf], lambda t, v, w: int(leaf)
    word = chance.choice(["+", "-", "*", "least", "most"])
    left, left_of = random_expr(chance, depth - 1, letters)
    right, right_of = random_expr(chance, depth - 1, letters)
    made = {
        "+": lambda a, b: a + b, "-": lambda a, b: a - b, "*": lambda a, b: a * b, "least": min, "most": max,
    }[word]
    return [word] + left + right, lambda t, v, w: made(left_of(t, v, w), right_of(t, v, w))


class Any(unittest.TestCase):
    def test_exprs_of_any_form(self):
        chance = random.Random(1)
        for turn in range(300):
            words, value_of = random_expr(chance, chance.randrange(5), "tvw")
            found = read_expr(words, "tvw")
            for ask in range(3):
                t, v, w = [chance.randrange(-20, 20) for place in range(3)]
                self.assertEqual(found.value(t, v, w), value_of(t, v, w), words)
            for at in range(len(words)):
                self.assertRaises(NoExpr, read_expr, words[:at], "tvw")
            self.assertRaises(NoExpr, read_expr, words + ["1"], "tvw")


if __name__ == "__main__":
    unittest.main()

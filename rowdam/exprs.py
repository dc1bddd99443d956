"""EXPRs and CONDs.

Their words are walked from the last one to the first: what a word stands ahead of is then reckoned already and lies on
top of a stack, the left one uppermost. So no depth is too deep.
"""

from rowdam.errors import NoExpr
from rowdam.figures import is_number
from rowdam.things import MOST_VALUE

# What each word makes, what it needs behind it, and how many of these.
NEEDS = {
    "+": ("number", "number", 2),
    "-": ("number", "number", 2),
    "*": ("number", "number", 2),
    "least": ("number", "number", 2),
    "most": ("number", "number", 2),
    "<": ("truth", "number", 2),
    "=": ("truth", "number", 2),
    "not": ("truth", "truth", 1),
    "and": ("truth", "truth", 2),
    "or": ("truth", "truth", 2),
}
ALL_LETTERS = ("t", "v", "w")
COND_LETTERS = "tv"


def held(number):
    return max(-MOST_VALUE, min(MOST_VALUE, number))


def is_leaf(word, letters):
    return is_number(word) or (word in ALL_LETTERS and word in letters)


def take_needed(word, kinds):
    needed = NEEDS[word]
    for place in range(needed[2]):
        if not kinds or kinds.pop() != needed[1]:
            raise NoExpr(f"{word} needs other words behind it")


def check_words(words, letters, wanted):
    kinds = []
    for word in reversed(words):
        if word in NEEDS:
            take_needed(word, kinds)
            kinds.append(NEEDS[word][0])
        elif is_leaf(word, letters):
            kinds.append("number")
        else:
            raise NoExpr(f"{word!r} may not stand here")
    if kinds != [wanted]:
        raise NoExpr("too many words, or too few")


def combined(word, left, right):
    if word == "+":
        return left + right
    if word == "-":
        return left - right
    if word == "*":
        return left * right
    if word == "least":
        return min(left, right)
    if word == "most":
        return max(left, right)
    if word == "<":
        return left < right
    if word == "=":
        return left == right
    if word == "and":
        return left and right
    return left or right


def leaf_value(word, time, value, other):
    if word == "t":
        return time
    if word == "v":
        return value
    if word == "w":
        return other
    return int(word)


def reckoned(words, time, value, other):
    results = []
    for word in reversed(words):
        if word == "not":
            results.append(not results.pop())
        elif word in NEEDS:
            left = results.pop()
            right = results.pop()
            results.append(combined(word, left, right))
        else:
            results.append(leaf_value(word, time, value, other))
    return results[0]


class Expr:
    def __init__(self, words):
        self.parts = tuple(words)

    def value(self, time, value, other=0):
        return reckoned(self.parts, time, value, other)

    def words(self):
        return list(self.parts)


class Cond:
    def __init__(self, words):
        self.parts = tuple(words)

    def holds(self, time, value):
        return reckoned(self.parts, time, value, 0)

    def words(self):
        return list(self.parts)


def read_expr(words, letters):
    check_words(words, letters, "number")
    return Expr(words)


def read_cond(words):
    check_words(words, COND_LETTERS, "truth")
    return Cond(words)


def sieve_of(words):
    cond = read_cond(words)

    def sieve(time, value):
        return cond.holds(time, value)

    return sieve


def change_of(words, letters):
    expr = read_expr(words, letters)

    def change(time, value, other=0):
        return held(expr.value(time, value, other))

    return change

"""The text of a works read and shown, its ins, outs, pipes and flows."""

from rowdam.errors import NoExpr, NoName, NoText, TooMuch
from rowdam.exprs import read_cond, read_expr
from rowdam.figures import FIGURES, is_count
from rowdam.meanings import window_of
from rowdam.things import LETTERS

# How many FROMs each word has; a pour has two or more, and at most so many.
FROMS = {
    "in": 0, "keep": 1, "turn": 1, "share": 1, "pour": 8, "fixed": 1, "slide": 1, "gap": 1, "join": 2, "out": 1,
}
FOLDS = ("sum", "count", "most", "least")
MOST_ROWS = 40
MOST_SIGNS = 12
MOST_SHARES = 8
MOST_SPREAD = 8
MOST_SPAN = 1_000_000_000_000
MOST_FLOW = 2000


def is_name(text):
    if not 1 <= len(text) <= MOST_SIGNS or text[0] not in LETTERS:
        return False
    return all([sign in LETTERS or sign in FIGURES for sign in text])


def is_count_within(text, least, most):
    return is_count(text) and least <= int(text) <= most


def is_expr(words, letters):
    try:
        read_expr(words, letters)
    except NoExpr:
        return False
    return True


def is_cond(words):
    try:
        read_cond(words)
    except NoExpr:
        return False
    return True


def is_share_rest(rest):
    if len(rest) != 2 or not is_count_within(rest[1], 1, MOST_SHARES):
        return False
    return is_count_within(rest[0], 0, int(rest[1]) - 1)


def is_width_rest(rest):
    return len(rest) == 2 and is_count_within(rest[0], 1, MOST_SPAN) and rest[1] in FOLDS


def is_slide_rest(rest):
    if len(rest) != 3 or not is_width_rest((rest[0], rest[2])):
        return False
    width = int(rest[0])
    return is_count_within(rest[1], 1, width) and width <= MOST_SPREAD * int(rest[1])


def is_join_rest(rest):
    if len(rest) < 1 or not is_count_within(rest[0], 0, MOST_SPAN):
        return False
    return is_expr(rest[1:], "tvw")


def is_rest_of(word, rest):
    if word == "keep":
        return is_cond(rest)
    if word == "turn":
        return is_expr(rest, "tv")
    if word == "share":
        return is_share_rest(rest)
    if word == "slide":
        return is_slide_rest(rest)
    if word in ("fixed", "gap"):
        return is_width_rest(rest)
    if word == "join":
        return is_join_rest(rest)
    return rest == ()


def row_of(words):
    behind = 2 + FROMS[words[0]]
    return (words[0], words[1], tuple(words[2:behind]), tuple(words[behind:]))


def has_its_froms(row):
    if row[0] == "pour":
        return len(row[2]) >= 2
    return len(row[2]) == FROMS[row[0]]


def is_row(words):
    if len(words) < 2 or words[0] not in FROMS:
        return False
    row = row_of(words)
    if not has_its_froms(row) or not all([is_name(name) for name in (row[1],) + row[2]]):
        return False
    return is_rest_of(row[0], row[3])


def has_its_names(row, words_above):
    # words_above leads from the name of each row above to its word; a name that is none counts as an out's.
    if row[1] in words_above:
        return False
    return all([words_above.get(name, "out") != "out" for name in row[2]])


def read_works(text):
    works = []
    words_above = {}
    for at, line in enumerate(text.split("\n")):
        words = line.split(" ")
        if not is_row(words):
            raise NoText(at)
        row = row_of(words)
        if not has_its_names(row, words_above):
            raise NoName(at)
        words_above[row[1]] = row[0]
        works.append(row)
    return works


def shown_row(row):
    return " ".join((row[0], row[1]) + row[2] + row[3])


def shown_works(works):
    return "\n".join([shown_row(row) for row in works])


def ins_of(works):
    return [row[1] for row in works if row[0] == "in"]


def outs_of(works):
    return [row[1] for row in works if row[0] == "out"]


def pipes_of(works):
    pipes = []
    for row in works:
        for way, name in enumerate(row[2]):
            pipes.append((name, row[1], way))
    return pipes


def flow_of(row, lengths, above):
    if row[0] == "in":
        return lengths.get(row[1], 0)
    froms = [above[name] for name in row[2]]
    if row[0] == "join":
        return froms[0] * froms[1]
    if row[0] == "slide":
        window = window_of(row)
        return froms[0] * ((window[0] + window[1] - 1) // window[1])
    return sum(froms)


def flows(works, lengths):
    found = {}
    for row in works:
        flow = flow_of(row, lengths, found)
        if flow > MOST_FLOW:
            raise TooMuch(f"more than {MOST_FLOW} things may be told by a row")
        found[row[1]] = flow
    return found

"""The forms of the rows that a desk is told."""

from rowdam.errors import NoOrder
from rowdam.figures import is_count

# What follows each word: a name (any word), a count, or all that is left of the row.
FORMS = {
    "add": ("all",),
    "feed": ("name", "all"),
    "room": ("count", "count"),
    "start": (),
    "moves": (),
    "do": ("count",),
    "rest": (),
    "line": (),
    "fall": (),
    "told": ("name",),
    "outside": ("name",),
    "late": ("name",),
    "plain": ("name",),
    "pipe": ("count",),
    "widen": ("name", "count", "count"),
    "narrow": ("count",),
}


def words_of(row, form):
    if "all" in form:
        return row.split(" ", len(form))
    return row.split(" ")


def meant(word, kind):
    if kind != "count":
        return word
    if not is_count(word):
        raise NoOrder(f"{word!r} is no count")
    return int(word)


def read_order(row):
    # Tells the first word and behind it what the form asks for, counts as whole numbers.
    if not isinstance(row, str):
        raise NoOrder("a row is a text")
    form = FORMS.get(row.split(" ")[0])
    if form is None:
        raise NoOrder("no row begins so")
    words = words_of(row, form)
    if len(words) != len(form) + 1:
        raise NoOrder("too many words, or too few")
    return words[:1] + [meant(word, kind) for word, kind in zip(words[1:], form)]

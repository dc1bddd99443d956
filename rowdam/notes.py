"""Items and things as texts."""

from rowdam.errors import NoItem
from rowdam.figures import is_signed_figures
from rowdam.things import is_item

# The greatest values have so many signs, the - counted; int is not to be asked for texts of thousands.
MOST_NUMBER_SIGNS = 62


def show_thing(thing):
    return " ".join([str(thing[0]), thing[1], str(thing[2])])


def show_things(things):
    return "; ".join([show_thing(thing) for thing in things])


def show_item(item):
    if item[0] == "thing":
        return "thing " + show_thing(item[1:])
    return "mark " + str(item[1])


def number_of(text):
    # None stands in no item, so what is made with it is refused.
    if len(text) > MOST_NUMBER_SIGNS or not is_signed_figures(text):
        return None
    return int(text)


def parts_of(words):
    if len(words) == 4:
        return (words[0], number_of(words[1]), words[2], number_of(words[3]))
    if len(words) == 2:
        return (words[0], number_of(words[1]))
    return None


def read_item(text, at=0):
    item = parts_of(text.split(" "))
    if not is_item(item):
        raise NoItem(at)
    return item

"""What the words behind a row's FROMs mean; the plain reading and the stations both go by it."""

from rowdam.exprs import change_of
from rowdam.things import key_number


def window_of(row):
    # A fixed row is a slide row whose step is its width.
    width = int(row[3][0])
    step = int(row[3][1]) if row[0] == "slide" else width
    return (width, step, row[3][-1])


def gap_of(row):
    return (int(row[3][0]), row[3][1])


def is_in_share(key, left, many):
    return key_number(key) % many == left


def sharer_of(row):
    left = int(row[3][0])
    many = int(row[3][1])

    def is_shared(key):
        return is_in_share(key, left, many)

    return is_shared


def turner_of(row):
    change = change_of(row[3], "tv")

    def turn(thing):
        return (thing[0], thing[1], change(thing[0], thing[2]))

    return turn


def pairer_of(row):
    span = int(row[3][0])
    change = change_of(row[3][1:], "tvw")

    # Tells a list, since most pairs make nothing.
    def pair(one, other):
        if one[1] != other[1] or abs(one[0] - other[0]) > span:
            return []
        later = max(one[0], other[0])
        return [(later, one[1], change(later, one[2], other[2]))]

    return pair

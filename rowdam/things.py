"""Times, keys, values and the items of rows."""

MOST_TIME = 1_000_000_000_000
MOST_VALUE = 1_000_000_000_000_000_000_000_000_000_000_000_000_000_000_000_000_000_000_000_000
LAST = 1_000_000_000_000_000
MOST_SIGNS = 8
LETTERS = "abcdefghijklmnopqrstuvwxyz"


def is_whole(x):
    # Python counts True and False as ints; here they are no numbers.
    return isinstance(x, int) and not isinstance(x, bool)


def is_time(x):
    return is_whole(x) and 0 <= x <= MOST_TIME


def is_value(x):
    return is_whole(x) and -MOST_VALUE <= x <= MOST_VALUE


def is_key(x):
    if not isinstance(x, str):
        return False
    return 1 <= len(x) <= MOST_SIGNS and all([sign in LETTERS for sign in x])


def is_thing_item(parts):
    return (
        len(parts) == 4
        and parts[0] == "thing"
        and is_time(parts[1])
        and is_key(parts[2])
        and is_value(parts[3])
    )


def is_mark_item(parts):
    return len(parts) == 2 and parts[0] == "mark" and is_time(parts[1])


def is_item(x):
    if not isinstance(x, tuple):
        return False
    return is_thing_item(x) or is_mark_item(x)


def key_number(key):
    number = 0
    for letter in key:
        number = number * len(LETTERS) + LETTERS.index(letter)
    return number

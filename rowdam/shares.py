"""Parallel pipes: a row widened to several that share its keys, and what was saved folded and spread accordingly."""

from rowdam.errors import NoWide
from rowdam.meanings import is_in_share
from rowdam.states import copied_state
from rowdam.things import is_whole
from rowdam.works import MOST_ROWS, MOST_SIGNS

WIDE_WORDS = ("keep", "turn", "fixed", "slide", "gap", "join")
MOST_MANY = 8
# Where the key stands in what a row keeps; a keep or turn row keeps nothing.
KEY_PLACES = {"fixed": 1, "slide": 1, "gap": 2, "join": 2}


def wide_row(works, name):
    for row in works:
        if row[1] == name and row[0] in WIDE_WORDS:
            return row
    raise NoWide(f"{name!r} is no name of a row that may be widened")


def part_names(name, many):
    return [f"{name}{k}" for k in range(many)]


def share_names(part, ways):
    return [f"{part}l", f"{part}r"][:ways]


def rows_in_place(row, many):
    parts = part_names(row[1], many)
    made = []
    for k, part in enumerate(parts):
        shares = share_names(part, len(row[2]))
        for share, source in zip(shares, row[2]):
            made.append(("share", share, (source,), (str(k), str(many))))
        made.append((row[0], part, tuple(shares), row[3]))
    return made + [("pour", row[1], tuple(parts), ())]


def check_made_names(made, works):
    taken = [row[1] for row in works]
    # The last one is the pour, which takes over the name of the row that is widened.
    for row in made[:-1]:
        if row[1] in taken or len(row[1]) > MOST_SIGNS:
            raise NoWide("a made name is taken or too long")


def widened(works, name, many):
    row = wide_row(works, name)
    if not is_whole(many) or not 2 <= many <= MOST_MANY:
        raise NoWide(f"a row is widened by a whole number from 2 to {MOST_MANY}")
    made = rows_in_place(row, many)
    check_made_names(made, works)
    wide = []
    for each in works:
        wide.extend(made if each[1] == name else [each])
    if len(wide) > MOST_ROWS:
        raise NoWide(f"there would be more than {MOST_ROWS} rows")
    return wide


def folded_state(saved, parts):
    kept = []
    for part in parts:
        kept.extend(saved[part][1])
    return (list(saved[parts[0]][0]), sorted(kept))


def fold_saved(saved, works, name, many):
    widened(works, name, many)
    narrow = {}
    for row in works:
        if row[1] == name:
            narrow[name] = folded_state(saved, part_names(name, many))
        else:
            narrow[row[1]] = copied_state(saved[row[1]])
    return narrow


def share_of_kept(row, kept, k, many):
    return [each for each in kept if is_in_share(each[KEY_PLACES[row[0]]], k, many)]


def spread_states(row, state, many):
    marks = state[0]
    spread = {}
    for k, part in enumerate(part_names(row[1], many)):
        for way, share in enumerate(share_names(part, len(row[2]))):
            spread[share] = ([marks[way]], [])
        spread[part] = (list(marks), share_of_kept(row, state[1], k, many))
    spread[row[1]] = ([min(marks)] * many, [])
    return spread


def spread_saved(saved, works, name, many):
    widened(works, name, many)
    wide = {}
    for row in works:
        if row[1] == name:
            wide.update(spread_states(row, saved[name], many))
        else:
            wide[row[1]] = copied_state(saved[row[1]])
    return wide

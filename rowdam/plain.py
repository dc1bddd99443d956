"""The plain reading of a works: what each row tells of the whole rows at once."""

from rowdam.errors import NoIn
from rowdam.exprs import sieve_of
from rowdam.folds import chains, ends_of, folded
from rowdam.meanings import gap_of, pairer_of, sharer_of, turner_of, window_of
from rowdam.rows import check_row, read_row
from rowdam.works import flows, ins_of


def check_rows(works, rows):
    ins = ins_of(works)
    for name in rows:
        if name not in ins:
            raise NoIn(f"{name!r} is no name of an in")
    for name in ins:
        check_row(rows.get(name, []))
    flows(works, dict([(name, len(row)) for name, row in rows.items()]))


def kept_by_cond(row, things):
    sieve = sieve_of(row[3])
    return [thing for thing in things if sieve(thing[0], thing[2])]


def turned(row, things):
    turn = turner_of(row)
    return [turn(thing) for thing in things]


def shared(row, things):
    is_shared = sharer_of(row)
    return [thing for thing in things if is_shared(thing[1])]


def poured(feeds):
    things = []
    for feed in feeds:
        things.extend(feed)
    return things


def closed_windows(row, things, mark):
    window = window_of(row)
    values = {}
    for thing in things:
        for end in ends_of(window[0], window[1], thing[0]):
            values.setdefault((end, thing[1]), []).append(thing[2])
    return [(place[0] - 1, place[1], folded(window[2], values[place])) for place in values if place[0] <= mark]


def closed_chains(row, things, mark):
    rest = gap_of(row)
    by_key = {}
    for thing in sorted(things):
        by_key.setdefault(thing[1], []).append(thing)
    told = []
    for key, own in by_key.items():
        for chain in chains(own, rest[0]):
            end = chain[-1][0] + rest[0]
            if end <= mark:
                told.append((end - 1, key, folded(rest[1], [thing[2] for thing in chain])))
    return told


def paired(row, feeds):
    pair = pairer_of(row)
    told = []
    for one in feeds[0]:
        for other in feeds[1]:
            told.extend(pair(one, other))
    return told


def told_in_any_order(row, feeds, mark):
    if row[0] == "keep":
        return kept_by_cond(row, feeds[0])
    if row[0] == "turn":
        return turned(row, feeds[0])
    if row[0] == "share":
        return shared(row, feeds[0])
    if row[0] in ("fixed", "slide"):
        return closed_windows(row, feeds[0], mark)
    if row[0] == "gap":
        return closed_chains(row, feeds[0], mark)
    if row[0] == "join":
        return paired(row, feeds)
    return poured(feeds)


def told_of(row, feeds, mark):
    return sorted(told_in_any_order(row, feeds, mark))


def plain_in(row, many):
    drawn = read_row(row, many)
    return (sorted(drawn[0]), drawn[2])


def plain(works, rows, upto=None):
    draws = {} if upto is None else upto
    found = {}
    for row in works:
        name = row[1]
        if row[0] == "in":
            found[name] = plain_in(rows.get(name, []), draws.get(name))
        else:
            feeds = [found[source][0] for source in row[2]]
            mark = min([found[source][1] for source in row[2]])
            found[name] = (told_of(row, feeds, mark), mark)
    return found

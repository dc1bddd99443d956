"""What several tests share: rows, items and works, and what is promised of every station and every machine."""

import copy

from rowdam.errors import TooMuch
from rowdam.plain import check_rows, plain, told_of
from rowdam.things import LAST
from rowdam.works import ins_of, outs_of, pipes_of, read_works

MOST = 10**60


def row_of(text):
    """The row that a text tells; its FROMs may be a to h."""
    return read_works("".join(f"in {name}\n" for name in "abcdefgh") + text)[8]


def thing(time, key="a", value=1):
    return ("thing", time, key, value)


def mark(time):
    return ("mark", time)


def take_all(station, items, way=0):
    """What is told for several items by one way, in one list."""
    return [told for item in items for told in station.take_in(way, item)]


def random_steps(chance, ways, many, end=False):
    """Pairs (way, item): by each way no thing below its mark; at the end, if asked, LAST by each way."""
    marks = [0] * ways
    steps = []
    for turn in range(many):
        way = chance.randrange(ways)
        if chance.random() < 0.3:
            time = max(0, marks[way] + chance.randrange(-2, 6))
            marks[way] = max(marks[way], time)
            steps.append((way, mark(time)))
        else:
            time = marks[way] + chance.randrange(0, 12)
            steps.append((way, thing(time, chance.choice("abc"), chance.randrange(-9, 10))))
    if end:
        steps += [(way, mark(LAST)) for way in chance.sample(range(ways), ways)]
    return steps


def check_goes_by_told_of(test, row, station, steps):
    """Behind each step: the things told so far are what told_of tells, and no thing is told behind a mark above it."""
    feeds = [[] for name in row[2]]
    marks = [0] * len(row[2])
    told_things = []
    told_mark = 0
    for way, item in steps:
        told = station.take_in(way, item)
        test.assertIsInstance(told, list)
        if item[0] == "thing":
            feeds[way].append(item[1:])
        else:
            marks[way] = max(marks[way], item[1])
        for each in told:
            if each[0] == "mark":
                test.assertGreater(each[1], told_mark)
                told_mark = each[1]
            else:
                test.assertGreaterEqual(each[1], told_mark)
                told_things.append(each[1:])
        test.assertEqual(station.low(), min(marks))
        test.assertEqual(station.state()[0], marks)
        if row[0] == "out":
            test.assertEqual((told_things, told_mark), ([], 0))
            test.assertEqual(sorted(station.state()[1]), told_of(row, feeds, min(marks)))
        else:
            test.assertEqual(told_mark, min(marks))
            test.assertEqual(sorted(told_things), told_of(row, feeds, min(marks)))


def check_goes_on_when_put_back(test, make, steps):
    """At each step a new station, into which the state was put back, goes on as the one that told it."""
    station = make()
    for at, (way, item) in enumerate(steps):
        state = station.state()
        others = make()
        if at % 2:
            take_all(others, [thing(3, "z"), thing(9, "a"), mark(1)])
        others.put_back(copy.deepcopy(state))
        test.assertEqual(others.state(), state)
        test.assertEqual(others.low(), station.low())
        told = station.take_in(way, item)
        test.assertEqual(others.take_in(way, item), told)
        for later_way, later in steps[at + 1:at + 6]:
            others.take_in(later_way, later)
    test.assertEqual(station.state(), station.state())


def check_states_are_apart(test, make, steps):
    """Neither what state told nor what was put back, changed behind, changes a station."""
    station = make()
    for way, item in steps:
        station.take_in(way, item)
    before = copy.deepcopy(station.state())
    told = station.state()
    test.assertIsInstance(told, tuple)
    test.assertEqual([type(part) for part in told], [list, list])
    told[0][0] = 77
    told[1].append(("x",))
    test.assertEqual(station.state(), before)
    other = make()
    handed_in = copy.deepcopy(before)
    other.put_back(handed_in)
    handed_in[0].append(5)
    handed_in[0][0] = 77
    handed_in[1].clear()
    test.assertEqual(other.state(), before)
    for way, item in steps:
        other.take_in(way, item)
    test.assertEqual(station.state(), before)


FOLDS = ["sum", "count", "most", "least"]
WORDS = ["keep", "turn", "share", "pour", "fixed", "slide", "gap", "join", "out"]


def random_row_text(chance, name, names, word):
    def some():
        return chance.choice(names)

    fold = chance.choice(FOLDS)
    if word == "keep":
        return f"keep {name} {some()} " + chance.choice(["< v 3", "not = t 4", "or < t 6 = v 2", "< 4 * v v"])
    if word == "turn":
        return f"turn {name} {some()} " + chance.choice(["+ v 1", "- t v", "* v v", "least v 2", "7"])
    if word == "share":
        many = chance.randrange(1, 5)
        return f"share {name} {some()} {chance.randrange(many)} {many}"
    if word == "pour":
        return f"pour {name} " + " ".join(some() for k in range(chance.choice([2, 2, 3, 5])))
    if word == "fixed":
        return f"fixed {name} {some()} {chance.randrange(1, 9)} {fold}"
    if word == "slide":
        return f"slide {name} {some()} " + chance.choice(["10 4", "3 1", "5 5", "7 2", "8 1"]) + f" {fold}"
    if word == "gap":
        return f"gap {name} {some()} {chance.randrange(1, 8)} {fold}"
    if word == "join":
        return f"join {name} {some()} {some()} {chance.randrange(0, 7)} " + chance.choice(["- v w", "+ t w", "most v w"])
    return f"out {name} {some()}"


def random_row(chance, many):
    row = []
    time = 0
    for place in range(many):
        time += chance.choice([0, 0, 1, 2, 3])
        near = max(0, time + chance.randrange(-4, 5))
        if chance.random() < 0.35:
            row.append(("mark", near))
        else:
            row.append(("thing", near, chance.choice(["a", "b", "c", "ba"]), chance.randrange(-5, 10)))
    return row


def random_works_and_rows(chance, many=10, length=9):
    """A works of some ins, some rows of any kinds and outs, and rows for it that are let by."""
    names = [f"i{k}" for k in range(chance.choice([1, 2, 2, 3]))]
    lines = [f"in {name}" for name in names]
    inner = list(names)
    for k in range(chance.randrange(1, many)):
        word = chance.choice(WORDS)
        lines.append(random_row_text(chance, f"r{k}", inner, word))
        if word != "out":
            inner.append(f"r{k}")
    for k in range(chance.randrange(1, 4)):
        lines.append(f"out o{k} {chance.choice(inner)}")
    works = read_works("\n".join(lines))
    while True:
        rows = {name: random_row(chance, chance.randrange(length + 1)) for name in names if chance.random() < 0.95}
        try:
            check_rows(works, rows)
            return works, rows
        except TooMuch:
            length = max(1, length - 1)


def random_rooms(chance, works):
    most = chance.choice([1, 2, 5, 100])
    return [chance.randrange(1, most + 1) for pipe in pipes_of(works)]


def check_in_order(test, items):
    """Each mark is above those ahead of it, no thing behind a mark above its time."""
    so_far = -1
    for item in items:
        if item[0] == "mark":
            test.assertGreater(item[1], so_far)
            so_far = item[1]
        elif item[0] == "thing":
            test.assertGreaterEqual(item[1], so_far)


def check_pipes(test, dam, works, rooms):
    for pipe, (source, to, way) in enumerate(pipes_of(works)):
        counts = dam.counts(pipe)
        test.assertEqual(sum(counts), rooms[pipe])
        test.assertGreaterEqual(min(counts), 0)
        test.assertEqual(counts[1], len(dam.inside(pipe)))
        check_in_order(test, dam.inside(pipe) + dam.tray(source))
    for name in outs_of(works):
        test.assertEqual(dam.tray(name), [])


def is_something_left(dam, works, rows):
    """Whether a machine without lines has anything left to do."""
    if any(dam.drawn(name) <= len(rows.get(name, [])) for name in ins_of(works)):
        return True
    if any(dam.tray(row[1]) for row in works):
        return True
    return any(dam.counts(pipe)[1] or dam.counts(pipe)[2] for pipe in range(len(pipes_of(works))))


def is_at_rest(dam):
    return all(move[0] == "draw" for move in dam.moves())


def come_to_rest(chance, dam):
    """Does moves that are no draws, in any order, till there is none."""
    found = [move for move in dam.moves() if move[0] != "draw"]
    while found:
        dam.do(chance.choice(found))
        found = [move for move in dam.moves() if move[0] != "draw"]


def check_rest(test, dam, works, rows):
    """What is promised of a machine at rest, by what each in has drawn."""
    draws = {name: dam.drawn(name) for name in ins_of(works)}
    read = plain(works, rows, draws)
    words = {row[1]: row[0] for row in works}
    for row in works:
        things, mark_so_far = read[row[1]]
        test.assertEqual(min(dam.state(row[1])[0]), mark_so_far)
        if row[0] == "out":
            test.assertEqual(sorted(dam.told(row[1])), things)
            test.assertEqual(dam.state(row[1])[1], dam.told(row[1]))
            if words[row[2][0]] in ("fixed", "slide", "gap"):
                test.assertEqual(dam.told(row[1]), things)


def sorted_outs(works, states):
    """States by name, with what outs kept sorted: the order in which it came is free."""
    outs = outs_of(works)
    return {name: (marks, sorted(kept) if name in outs else kept) for name, (marks, kept) in states.items()}


def draw_to(chance, dam, draws):
    """Draws by each in as many as told, in any order among other moves, and comes to rest."""
    while True:
        found = [move for move in dam.moves() if move[0] != "draw" or dam.drawn(move[1]) < draws[move[1]]]
        if not found:
            return
        dam.do(chance.choice(found))


def states_at_rest(chance, dam, works, draws):
    """The states of a machine that was just made, when it drew so many and is at rest."""
    draw_to(chance, dam, draws)
    return sorted_outs(works, {row[1]: dam.state(row[1]) for row in works})

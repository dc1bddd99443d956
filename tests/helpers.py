"""What several tests share: rows and items, and what is promised of every station."""

import copy

from rowdam.plain import told_of
from rowdam.things import LAST
from rowdam.works import read_works

MOST = 10**60


def row_of(text):
    """The row that a text tells; its FROMs may be a to h."""
    return read_works("".join(f"in {name}\n" for name in "abcdefgh") + text)[8]


def thing(time, key="a", value=1):
    return ("thing", time, key, value)


def mark(time):
    return ("mark", time)


def take_all(station, items, way=0):
    """What is told for several items by one way, in one list."""
    return [told for item in items for told in station.take_in(way, item)]


def random_steps(chance, ways, many, end=False):
    """Pairs (way, item): by each way no thing below its mark; at the end, if asked, LAST by each way."""
    marks = [0] * ways
    steps = []
    for turn in range(many):
        way = chance.randrange(ways)
        if chance.random() < 0.3:
            time = max(0, marks[way] + chance.randrange(-2, 6))
            marks[way] = max(marks[way], time)
            steps.append((way, mark(time)))
        else:
            time = marks[way] + chance.randrange(0, 12)
            steps.append((way, thing(time, chance.choice("abc"), chance.randrange(-9, 10))))
    if end:
        steps += [(way, mark(LAST)) for way in chance.sample(range(ways), ways)]
    return steps


def check_goes_by_told_of(test, row, station, steps):
    """Behind each step: the things told so far are what told_of tells, and no thing is told behind a mark above it."""
    feeds = [[] for name in row[2]]
    marks = [0] * len(row[2])
    told_things = []
    told_mark = 0
    for way, item in steps:
        told = station.take_in(way, item)
        test.assertIsInstance(told, list)
        if item[0] == "thing":
            feeds[way].append(item[1:])
        else:
            marks[way] = max(marks[way], item[1])
        for each in told:
            if each[0] == "mark":
                test.assertGreater(each[1], told_mark)
                told_mark = each[1]
            else:
                test.assertGreaterEqual(each[1], told_mark)
                told_things.append(each[1:])
        test.assertEqual(station.low(), min(marks))
        test.assertEqual(station.state()[0], marks)
        if row[0] == "out":
            test.assertEqual((told_things, told_mark), ([], 0))
            test.assertEqual(sorted(station.state()[1]), told_of(row, feeds, min(marks)))
        else:
            test.assertEqual(told_mark, min(marks))
            test.assertEqual(sorted(told_things), told_of(row, feeds, min(marks)))


def check_goes_on_when_put_back(test, make, steps):
    """At each step a new station, into which the state was put back, goes on as the one that told it."""
    station = make()
    for at, (way, item) in enumerate(steps):
        state = station.state()
        others = make()
        if at % 2:
            take_all(others, [thing(3, "z"), thing(9, "a"), mark(1)])
        others.put_back(copy.deepcopy(state))
        test.assertEqual(others.state(), state)
        test.assertEqual(others.low(), station.low())
        told = station.take_in(way, item)
        test.assertEqual(others.take_in(way, item), told)
        for later_way, later in steps[at + 1:at + 6]:
            others.take_in(later_way, later)
    test.assertEqual(station.state(), station.state())


def check_states_are_apart(test, make, steps):
    """Neither what state told nor what was put back, changed behind, changes a station."""
    station = make()
    for way, item in steps:
        station.take_in(way, item)
    before = copy.deepcopy(station.state())
    told = station.state()
    test.assertIsInstance(told, tuple)
    test.assertEqual([type(part) for part in told], [list, list])
    told[0][0] = 77
    told[1].append(("x",))
    test.assertEqual(station.state(), before)
    other = make()
    handed_in = copy.deepcopy(before)
    other.put_back(handed_in)
    handed_in[0].append(5)
    handed_in[0][0] = 77
    handed_in[1].clear()
    test.assertEqual(other.state(), before)
    for way, item in steps:
        other.take_in(way, item)
    test.assertEqual(station.state(), before)

"""Rows of items: checked, and read behind so many draws."""

from rowdam.errors import NoItem
from rowdam.things import LAST, is_item


def check_row(row):
    for at, item in enumerate(row):
        if not is_item(item):
            raise NoItem(at)


def read_row(row, many=None):
    # The end is a draw of its own, behind the last item.
    draws = len(row) + 1 if many is None else many
    on_time = []
    late = []
    mark = 0
    # A count below 0 would slice from the row's end.
    for item in row[:max(draws, 0)]:
        if item[0] == "mark":
            mark = max(mark, item[1])
        elif item[1] < mark:
            late.append(item[1:])
        else:
            on_time.append(item[1:])
    if draws > len(row):
        mark = LAST
    return (on_time, late, mark)

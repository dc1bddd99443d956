"""Folds of values, ends of windows, chains of things."""


def first_of(fold, value):
    return 1 if fold == "count" else value


def merged(fold, one, other):
    if fold == "most":
        return max(one, other)
    if fold == "least":
        return min(one, other)
    return one + other


def folded(fold, values):
    parts = [first_of(fold, value) for value in values]
    total = parts[0]
    for part in parts[1:]:
        total = merged(fold, total, part)
    return total


def ends_of(width, step, time):
    # The last window that holds the time begins at the multiple of the step that is not above it.
    end = time - time % step + width
    ends = []
    while end > time:
        ends.append(end)
        end -= step
    return list(reversed(ends))


def chains(things, gap):
    found = []
    for thing in things:
        if found and thing[0] - found[-1][-1][0] < gap:
            found[-1].append(thing)
        else:
            found.append([thing])
    return found

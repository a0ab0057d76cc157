"""The first choices that leave something."""

from meetvalue.kinds import NOTHING
from meetvalue.turns import come_to


def levels(rows):
    most = {}
    for path, trees in rows:
        most[path] = max(most.get(path, 0), len(trees))
    return sorted(most.items())


def cut(rows, some):
    kept = dict([(path, level + 1) for path, level in some])
    return [(path, trees[:kept.get(path, len(trees))]) for path, trees in rows]


# With less alternatives, less is left: so the level that stands leaves something, and it takes no look.
def chosen(rows):
    if come_to(rows) == NOTHING:
        return None
    taken = [(path, count - 1) for path, count in levels(rows)]
    for place, last in enumerate(list(taken)):
        for level in range(last[1]):
            tried = taken[:place] + [(last[0], level)] + taken[place + 1:]
            if come_to(cut(rows, tried)) != NOTHING:
                taken = tried
                break
    return taken


def settled(rows):
    taken = chosen(rows)
    return NOTHING if taken is None else come_to(cut(rows, taken))

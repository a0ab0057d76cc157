"""The first choices that leave something."""

from meetvalue.tables import NOTHING, Table, told
from meetvalue.turns import last_turn, refuse_ring


def levels(rows):
    most = {}
    for path, trees in rows:
        most[path] = max(most.get(path, 0), len(trees))
    return sorted(most.items())


def cut(rows, some):
    kept = dict([(path, level + 1) for path, level in some])
    return [(path, trees[:kept.get(path, len(trees))]) for path, trees in rows]


def chosen(rows):
    refuse_ring(rows)
    return chosen_in(Table(), rows)


def settled(rows):
    refuse_ring(rows)
    table = Table()
    taken = chosen_in(table, rows)
    return told(table, NOTHING if taken is None else last_turn(table, cut(rows, taken)))


# The level that stands leaves something, so it takes no look: with fewer alternatives no more is left.
def chosen_in(table, rows):
    if last_turn(table, rows) == NOTHING:
        return None
    taken = [(path, count - 1) for path, count in levels(rows)]
    for place, standing in enumerate(list(taken)):
        for level in range(standing[1]):
            tried = taken[:place] + [(standing[0], level)] + taken[place + 1:]
            if last_turn(table, cut(rows, tried)) != NOTHING:
                taken = tried
                break
    return taken

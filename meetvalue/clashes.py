"""Rows that clash."""

from meetvalue.tables import NOTHING, Table
from meetvalue.turns import last_turn, refuse_ring


# Without a row no less is left: so one that can't be spared among more rows can't be among fewer.
def clash(rows):
    refuse_ring(rows)
    table = Table()
    if last_turn(table, rows) != NOTHING:
        return None
    numbers = list(range(len(rows)))
    for number in range(len(rows)):
        others = [other for other in numbers if other != number]
        if last_turn(table, [rows[other] for other in others]) == NOTHING:
            numbers = others
    return numbers

"""Rows that clash."""

from meetvalue.kinds import NOTHING
from meetvalue.turns import come_to


# Without a row, no less is left: so one that couldn't be spared among more rows can't be among fewer.
def clash(rows):
    if come_to(rows) != NOTHING:
        return None
    numbers = list(range(len(rows)))
    for number in range(len(rows)):
        others = [other for other in numbers if other != number]
        if come_to([rows[other] for other in others]) == NOTHING:
            numbers = others
    return numbers

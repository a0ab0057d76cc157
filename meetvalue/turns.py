"""What rows come to, turn by turn."""

from meetvalue.errors import Ring
from meetvalue.making import of_sort
from meetvalue.meaning import kind_in, with_forms
from meetvalue.mixing import mixed_together
from meetvalue.rings import ring
from meetvalue.tables import ALL_RECORDS, NO_LISTS, NO_RECORDS, NOTHING, Table, entered, told


def turn(rows, root):
    table = Table()
    return told(table, turn_in(table, rows, entered(table, root)))


def turns(rows):
    refuse_ring(rows)
    table = Table()
    return [told(table, number) for number in turns_in(table, rows)]


def come_to(rows):
    refuse_ring(rows)
    table = Table()
    return told(table, last_turn(table, rows))


def refuse_ring(rows):
    numbers = ring(rows)
    if numbers is not None:
        raise Ring(f"the rows {numbers} lean on one another in a ring that builds")


# From here on kinds are numbers of a table: what one turn took need not be done again for the next one, nor for other
# rows.
def turns_in(table, rows):
    found = [entered(table, of_sort("record"))]
    while True:
        following = turn_in(table, rows, found[-1])
        if following == found[-1]:
            return found
        found.append(following)


def last_turn(table, rows):
    return turns_in(table, rows)[-1]


def turn_in(table, rows, root):
    kinds = [entered(table, of_sort("record"))]
    for path, trees in rows:
        kind = mixed_together(table, "or", [kind_in(table, tree, root) for tree in trees])
        kinds.append(placed_in(table, path, kind))
    return mixed_together(table, "and", kinds)


def placed_in(table, path, kind):
    here = kind
    for name in reversed(path):
        if here != NOTHING:
            form = table.number(("name", name, NO_RECORDS, ((here, ALL_RECORDS),)))
            here = with_forms(table, NO_LISTS, form)
    return here

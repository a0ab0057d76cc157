"""What rows come to, turn by turn."""

from meetvalue.errors import Ring
from meetvalue.kinds import are_same, join, meet
from meetvalue.looking import placed
from meetvalue.making import of_sort
from meetvalue.meaning import kind_of, together
from meetvalue.rings import ring


def turn(rows, root):
    kinds = [placed(path, together(join, [kind_of(tree, root) for tree in trees])) for path, trees in rows]
    return together(meet, [of_sort("record")] + kinds)


def turns(rows):
    refuse_ring(rows)
    found = [of_sort("record")]
    while True:
        following = turn(rows, found[-1])
        if are_same(following, found[-1]):
            return found
        found.append(following)


def come_to(rows):
    return turns(rows)[-1]


def refuse_ring(rows):
    numbers = ring(rows)
    if numbers is not None:
        raise Ring(f"the rows {numbers} lean on one another in a ring that builds")

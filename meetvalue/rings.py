"""Rows that lean on one another, and rings among them."""


def leans(row, other):
    return any([begins(place, other[0]) or begins(other[0], place) for place in places_of(row[1])])


def leans_into(row, other):
    return any([len(place) < len(other[0]) and begins(place, other[0]) for place in places_of(row[1])])


def begins(path, longer):
    return longer[:len(path)] == path


# Places stand within no other trees than those of "&" and "|".
def places_of(trees):
    waiting = list(trees)
    places = []
    while len(waiting) > 0:
        tree = waiting.pop()
        if tree[0] == "place":
            places.append(tree[1])
        elif tree[0] in ("and", "or"):
            waiting.extend(tree[1])
    return places


# Each row that leans into another closes a ring where that one leads back to it. The shortest way back has no row
# twice.
def ring(rows):
    nexts = [[number for number, other in enumerate(rows) if leans(row, other)] for row in rows]
    for last, row in enumerate(rows):
        for first in nexts[last]:
            if leans_into(row, rows[first]):
                way = shortest_way(nexts, first, last)
                if way is not None:
                    return way
    return None


def shortest_way(nexts, first, last):
    came_from = {first: None}
    waiting = [first]
    while len(waiting) > 0:
        here = waiting.pop(0)
        if here == last:
            return way_to(came_from, last)
        for number in nexts[here]:
            if number not in came_from:
                came_from[number] = here
                waiting.append(number)
    return None


def way_to(came_from, last):
    way = []
    here = last
    while here is not None:
        way.append(here)
        here = came_from[here]
    return list(reversed(way))

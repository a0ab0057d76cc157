"""A desk that keeps rows and tells what they come to."""

from meetvalue.choices import settled
from meetvalue.clashes import clash
from meetvalue.errors import NoRow, NoText
from meetvalue.kinds import NOTHING
from meetvalue.looking import beyond, only, part
from meetvalue.meaning import kind_of
from meetvalue.reading import read, read_path, read_row
from meetvalue.rings import places_of
from meetvalue.showing import shown, shown_thing
from meetvalue.turns import refuse_ring


class Desk:
    def __init__(self):
        self.lines = []
        self.kept_rows = []

    def tell(self, line):
        row = read_row(line)
        refuse_ring(self.kept_rows + [row])
        self.lines.append(line)
        self.kept_rows.append(row)
        return len(self.lines) - 1

    def drop(self, number):
        if number < 0 or number >= len(self.lines):
            raise NoRow("no row has this number")
        self.lines.pop(number)
        self.kept_rows.pop(number)

    def rows(self):
        return list(self.lines)

    def told_at(self, path):
        place = read_path(path)
        numbers = clash(self.kept_rows)
        if numbers is not None:
            return ("clash", numbers)
        kind = part(settled(self.kept_rows), place)
        thing = only(kind)
        return ("kind", shown(kind)) if thing is None else ("one", shown_thing(thing))

    def is_sure(self, path, text):
        place = read_path(path)
        tree = read(text)
        if places_of([tree]) != []:
            raise NoText("an expression with places")
        # As no place stands in it, any root will do.
        thing = beyond(part(settled(self.kept_rows), place), kind_of(tree, NOTHING))
        return ("yes",) if thing is None else ("no", shown_thing(thing))

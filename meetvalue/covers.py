"""Record forms told by few rows of fields, which may overlap."""

from meetvalue.mixing import cells_of, mixed_forms, mixed_together, outside, record_form, with_name
from meetvalue.tables import ALL_RECORDS, ANY, NO_RECORDS, NOTHING

# So many pairs of forms are looked at, so many names one behind the other, and so many cells at one, before it is
# given up.
MOST_LOOKS = 2000
MOST_NAMES = 60
MOST_CELLS = 40


# What was found for pairs (low, high): rows that let in all of low and nothing beyond high, and the form of all that
# they let in.
class Search:
    def __init__(self, table):
        self.table = table
        self.found = {}
        self.looks = 0


# A list of ways, as those of a form are told; None where that takes too long.
def cover_of(table, form):
    cover = covered(Search(table), form, form, MOST_NAMES)
    return None if cover is None else cover[0]


def covered(search, low, high, names):
    if low == NO_RECORDS:
        return ([], NO_RECORDS)
    if search.table.nodes[high][0] == "rest":
        return ([([], search.table.nodes[high])], high)
    if (low, high) not in search.found:
        search.looks += 1
        given_up = search.looks > MOST_LOOKS or names == 0
        search.found[(low, high)] = None if given_up else covered_at_name(search, low, high, names - 1)
    return search.found[(low, high)]


# Some of the records by what they have at a name: a kind, or None where they lack it.
class Cell:
    def __init__(self, kind, low, high):
        self.kind = kind
        self.low = low
        self.high = high
        self.cover = NO_RECORDS


# First what can't be told of all cells at once, each time for as many of them as will do; then the rest of all.
def covered_at_name(search, low, high, names):
    name = min([node[1] for node in (search.table.nodes[low], search.table.nodes[high]) if node[0] == "name"])
    cells = cells_at(search.table, name, low, high)
    if len(cells) > MOST_CELLS:
        return None
    common = meeting(search.table, [cell.high for cell in cells])
    ways = []
    for cell in cells:
        lacking = less_form(search.table, less_form(search.table, cell.low, common), cell.cover)
        if not cover_cells(search, name, cells, lacking, cell.high, names, ways):
            return None
    lacking = NO_RECORDS
    for cell in cells:
        lacking = mixed(search.table, "or", lacking, less_form(search.table, cell.low, cell.cover))
    if not cover_cells(search, name, cells, lacking, common, names, ways):
        return None
    pairs = [(cell.kind, cell.cover) for cell in cells if cell.kind is not None]
    return (ways, record_form(search.table, name, cells[-1].cover, pairs))


# The last cell is that of the records without the name: mostly, what is told of others will do for it. Also cells that
# let in nothing count, so that no more is taken for common than may be told without the name.
def cells_at(table, name, low, high):
    inner = with_name(table, name, low)
    outer = with_name(table, name, high)
    cells = []
    for kind, forms in cells_of(table, "less", outer[3], inner[3], NO_RECORDS):
        cells.append(Cell(kind, forms[1], forms[0]))
    others = outside(table, ANY, outer[3])
    if others != NOTHING:
        cells.append(Cell(others, NO_RECORDS, NO_RECORDS))
    return cells + [Cell(None, inner[2], outer[2])]


def mixed(table, word, one, other):
    return mixed_forms(table, word, one, other, NO_RECORDS, ALL_RECORDS)


def less_form(table, one, other):
    return mixed(table, "less", one, other)


def meeting(table, forms):
    met = ALL_RECORDS
    for form in forms:
        met = mixed(table, "and", met, form)
    return met


# Adds ways for what is lacking, in all cells that let them in; False where that takes too long.
def cover_cells(search, name, cells, lacking, high, names, ways):
    found = covered(search, lacking, high, names)
    if found is None:
        return False
    fitting = [cell for cell in cells if less_form(search.table, found[1], cell.high) == NO_RECORDS]
    if len(found[0]) > 0:
        kinds = [cell.kind for cell in fitting if cell.kind is not None]
        kind = mixed_together(search.table, "or", [NOTHING] + kinds)
        field = (name, kind, kinds != [], len(kinds) < len(fitting))
        ways.extend([([field] + fields, end) for fields, end in found[0]])
        for cell in fitting:
            cell.cover = mixed(search.table, "or", cell.cover, found[1])
    return True

"""Kinds and forms by numbers.

A list form is nested as deep as its lists are long, a record form as deep as it looks at names. Python's own == and <
go down as deep, and tell anew what they were told before; with numbers, each is gone through once, and none too deep.
"""

# The numbers that these have in every table.
NO_LISTS = 0
ALL_LISTS = 1
NO_RECORDS = 2
ALL_RECORDS = 3
NOTHING = 4
ANY = 5

FIRST_NODES = (
    ("no",), ("all",), ("rest", False, False), ("rest", True, True),
    (False, (), (), ("only", ()), 0, 2), (True, (False, True), (((), ()),), ("but", ()), 1, 3),
)

# So deep Python's own == may go without a second thought.
SAFE_DEPTH = 200
FEW = 10


# A node is a kind or a form in which numbers stand for the kinds and forms within: the same things, the same number.
class Table:
    def __init__(self):
        self.numbers = {}
        self.nodes = []
        # How deep the whole tuples are nested, and these themselves, None where one hasn't been asked for.
        self.depths = []
        self.tuples = []
        # What came of mixing, of opening, of looking at a name, and of reading trees: so that each is done once.
        self.mixes = {}
        self.wide = {}
        self.parts = {}
        self.trees = {}
        for node in FIRST_NODES:
            self.number(node)

    def number(self, node):
        if node not in self.numbers:
            self.numbers[node] = len(self.nodes)
            inner_depths = [self.depths[inner] for inner in numbers_within(node)]
            self.depths.append(levels_of(node) + max(inner_depths, default=0))
            self.nodes.append(node)
            self.tuples.append(None)
        return self.numbers[node]


def entered(table, kind):
    return entered_within(table, {}, kind)


def entered_form(table, form):
    return entered_form_within(table, {}, form)


# met has kinds with their numbers that were entered within the same whole, by how they look from without.
def entered_within(table, met, kind):
    lists = entered_form_within(table, met, kind[4])
    return table.number(kind[:4] + (lists, entered_form_within(table, met, kind[5])))


# A form on the way to its number: with the forms within it, and the numbers of those that have one.
class Visit:
    def __init__(self, form):
        self.form = form
        self.inner = forms_within(form)
        self.found = []


def forms_within(form):
    if form[0] == "first":
        return [inner for kind, inner in form[2]]
    if form[0] == "name":
        return [form[2]] + [inner for kind, inner in form[3]]
    return []


# What waits stands in the place of recursion, as forms are nested as deep as lists are long.
def entered_form_within(table, met, form):
    visits = [Visit(form)]
    forks = {}
    while True:
        visit = visits[-1]
        if len(visit.found) < len(visit.inner):
            inner = visit.inner[len(visit.found)]
            number = fork_met(table, forks, len(visits), inner)
            if number is None:
                visits.append(Visit(inner))
            else:
                visit.found.append(number)
        else:
            number = number_of_visit(table, met, visit)
            visits.pop()
            if len(visits) == 0:
                return number
            visits[-1].found.append(number)
            if is_fork(visit.inner):
                forks.setdefault(level_of(len(visits), visit.form), []).append((visit.form, number))


def number_of_visit(table, met, visit):
    form = visit.form
    if form[0] == "first":
        return table.number(("first", form[1], numbered(table, met, form[2], visit.found)))
    if form[0] == "name":
        return table.number(("name", form[1], visit.found[0], numbered(table, met, form[3], visit.found[1:])))
    return table.number(form)


def numbered(table, met, branches, found):
    return tuple([(entered_once(table, met, branch[0]), number) for branch, number in zip(branches, found)])


# A kind often stands in several places, and what is within it again: gone through anew each time, they would double
# with each step inwards. A look at the last ones that look alike will mostly do.
def entered_once(table, met, kind):
    if not is_deep_kind(kind):
        return entered_within(table, met, kind)
    look = (kind[:4], look_of(kind[4]), look_of(kind[5]))
    alike = met.setdefault(look, [])
    for other, number in alike[-FEW:]:
        if are_surely_same(kind, other, table.depths[number], kinds_differ):
            return number
    number = entered_within(table, met, kind)
    alike.append((kind, number))
    return number


def is_deep(form):
    return form[0] == "first" or form[0] == "name"


def is_deep_kind(kind):
    return is_deep(kind[4]) or is_deep(kind[5])


# Without forks, each form is come to in one way alone.
def is_fork(forms):
    return len([form for form in forms if is_deep(form)]) > 1


# What is seen of a form from without: what looks otherwise is not the same.
def look_of(form):
    return (form[0], form[1], tuple([kind[:4] for kind, inner in form[-1]])) if is_deep(form) else form


# Where forks may be the same: those that look at the same name, or at the same item.
def level_of(depth, form):
    return (form[1] if form[0] == "name" else depth, look_of(form))


# The number of a fork that was met before: else forms in which ways part and meet again would be gone through anew by
# each way, and these double with each fork. What was met last is met again most often.
def fork_met(table, forks, depth, form):
    if is_fork(forms_within(form)):
        for other, number in reversed(forks.get(level_of(depth, form), [])):
            if are_surely_same(form, other, table.depths[number], differ_on_way):
                return number
    return None


# True where two kinds or two forms are surely the same; where that isn't sure, False. Python's == would go too deep
# where deep ones differ late: so two ways down are compared step by step ahead of it. Behind that, == sees at once
# that two are one object: equal ones that were told within one kind are.
def are_surely_same(one, other, depth, differ):
    if depth > SAFE_DEPTH and (differ(one, other, 0) or differ(one, other, -1)):
        return False
    return [one] == [other]


def kinds_differ(one, other, place):
    if not is_deep_kind(one):
        return one != other
    return differ_on_way(one[4], other[4], place) or differ_on_way(one[5], other[5], place)


# On the way, the first or the last of the kinds and of the forms within is gone into each time.
def differ_on_way(one, other, place):
    here = one
    there = other
    while is_deep(here):
        branches = here[-1]
        others = there[-1]
        if here[:2] != there[:2] or len(branches) != len(others):
            return True
        pairs = [(here[2], there[2])] if here[0] == "name" else []
        for branch, other_branch in zip(branches, others):
            if branch[0][:4] != other_branch[0][:4]:
                return True
            pairs.append((branch[1], other_branch[1]))
        if branches != () and kinds_differ(branches[place][0], others[place][0], place):
            return True
        deep = [pair for pair in pairs if is_deep(pair[0])]
        if deep == []:
            return any([pair[0] != pair[1] for pair in pairs])
        here = deep[place][0]
        there = deep[place][1]
    return here != there


# The tuple that a number stands for.
def told(table, number):
    waiting = [number]
    while len(waiting) > 0:
        here = waiting[-1]
        lacking = [inner for inner in numbers_within(table.nodes[here]) if table.tuples[inner] is None]
        waiting.extend(lacking)
        if len(lacking) == 0:
            if table.tuples[here] is None:
                table.tuples[here] = with_tuples(table, table.nodes[here])
            waiting.pop()
    return table.tuples[number]


def numbers_within(node):
    if node[0] == "first":
        return both_of_each(node[2])
    if node[0] == "name":
        return [node[2]] + both_of_each(node[3])
    return list(node[4:]) if len(node) == 6 else []


# What is within a branch is nested in a pair, that in the branches, and these in the form.
def levels_of(node):
    return 3 if node[0] == "first" or node[0] == "name" else 1


def both_of_each(branches):
    return [kind for kind, form in branches] + [form for kind, form in branches]


def with_tuples(table, node):
    if node[0] == "first":
        return ("first", node[1], tuples_of(table, node[2]))
    if node[0] == "name":
        return ("name", node[1], table.tuples[node[2]], tuples_of(table, node[3]))
    return node[:4] + (table.tuples[node[4]], table.tuples[node[5]]) if len(node) == 6 else node


def tuples_of(table, branches):
    return tuple([(table.tuples[kind], table.tuples[form]) for kind, form in branches])


# Branches sorted as their tuples are. As no two have a thing in both their kinds, these alone tell the order.
def in_order(table, branches):
    told_branches = []
    for branch in branches:
        low = 0
        high = len(told_branches)
        while low < high:
            middle = (low + high) // 2
            if comes_ahead(table, branch[0], told_branches[middle][0]):
                high = middle
            else:
                low = middle + 1
        told_branches.insert(low, branch)
    return tuple(told_branches)


# Whether the tuple of the one number is sorted ahead of that of the other one; the two are not the same.
def comes_ahead(table, one, other):
    here = table.nodes[one]
    there = table.nodes[other]
    while True:
        mine = parts_of(here)
        theirs = parts_of(there)
        place = first_difference(mine, theirs)
        if place == min(len(mine), len(theirs)):
            return len(mine) < len(theirs)
        if not mine[place][1]:
            return mine[place][0] < theirs[place][0]
        here = table.nodes[mine[place][0]]
        there = table.nodes[theirs[place][0]]


def first_difference(one, other):
    place = 0
    while place < min(len(one), len(other)) and one[place] == other[place]:
        place += 1
    return place


# A node's parts in the order in which tuples are compared, each with a truth: whether it is a number of the table.
def parts_of(node):
    if node[0] == "first":
        return [(node[0], False), (node[1], False)] + parts_of_branches(node[2])
    if node[0] == "name":
        return [(node[0], False), (node[1], False), (node[2], True)] + parts_of_branches(node[3])
    if len(node) == 6:
        return [(part, False) for part in node[:4]] + [(number, True) for number in node[4:]]
    return [(part, False) for part in node]


def parts_of_branches(branches):
    parts = []
    for kind, form in branches:
        parts.extend([(kind, True), (form, True)])
    return parts

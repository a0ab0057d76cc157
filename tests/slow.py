# What the document says of kinds, written anew by its words, slowly: the tests hold the program against it.
import itertools

from meetvalue.kinds import ANY, NOTHING, join, less
from meetvalue.making import of_list, of_numbers, of_record, of_sort

SHUT = ("rest", False, False)
WIDE = ("rest", True, True)
PLAIN_NOTHING = (False, (), (), ("only", ()), ("no",), SHUT)
PLAIN_ANY = (True, (False, True), (((), ()),), ("but", ()), ("all",), WIDE)


# ---- What is in a kind.

def is_in(kind, thing):
    none, truths, spans, texts, lists, records = kind
    word = thing[0]
    if word == "none":
        return none
    if word == "truth":
        return thing[1] in truths
    if word == "number":
        return any((not low or low[0] <= thing[1]) and (not high or thing[1] <= high[0]) for low, high in spans)
    if word == "text":
        return (thing[1] in texts[1]) == (texts[0] == "only")
    if word == "list":
        return list_is_in(lists, thing[1])
    return record_is_in(records, dict(thing[1]), ())


def list_is_in(form, items):
    if form[0] != "first":
        return form[0] == "all"
    if not items:
        return form[1]
    return any(is_in(kind, items[0]) and list_is_in(inner, items[1:]) for kind, inner in form[2])


def record_is_in(form, fields, looked_at):
    if form[0] == "rest":
        return form[2] if set(fields) - set(looked_at) else form[1]
    _, name, absent, branches = form
    looked_at = looked_at + (name,)
    if name not in fields:
        return record_is_in(absent, fields, looked_at)
    return any(is_in(kind, fields[name]) and record_is_in(inner, fields, looked_at) for kind, inner in branches)


# ---- Whether a kind is told in its one form.

def faults_of_kind(kind):
    if not isinstance(kind, tuple) or len(kind) != 6:
        return ["no tuple of six"]
    none, truths, spans, texts, lists, records = kind
    faults = []
    if none is not True and none is not False:
        faults.append("none is no truth")
    if truths not in ((), (False,), (True,), (False, True)) or not all(isinstance(t, bool) for t in truths):
        faults.append(f"truths {truths}")
    faults += faults_of_spans(spans) + faults_of_texts(texts)
    return faults + faults_of_list_form(lists) + faults_of_record_form(records, "")


def faults_of_spans(spans):
    if not isinstance(spans, tuple):
        return ["spans no tuple"]
    last = None
    for k, (low, high) in enumerate(spans):
        if low == () and k > 0 or high == () and k < len(spans) - 1:
            return [f"spans without an end within {spans}"]
        if low and high and low[0] > high[0]:
            return [f"spans low above high {spans}"]
        if last is not None and low[0] <= last + 1:
            return [f"spans with no number missing between {spans}"]
        last = high[0] if high else None
    return []


def faults_of_texts(texts):
    word, named = texts
    right = word in ("only", "but") and isinstance(named, tuple) and list(named) == sorted(set(named))
    return [] if right else [f"texts {texts}"]


def faults_of_list_form(form):
    if form in (("all",), ("no",)):
        return []
    if not isinstance(form, tuple) or len(form) != 3 or form[0] != "first" or not isinstance(form[1], bool):
        return [f"list form {form}"]
    if form in (("first", False, ()), ("first", True, ((PLAIN_ANY, ("all",)),))):
        return [f"list form that is not told {form}"]
    faults = faults_of_branches(form[2], ("no",))
    for kind, inner in form[2]:
        faults += faults_of_list_form(inner)
    return faults


def faults_of_record_form(form, after):
    if not isinstance(form, tuple) or form[0] not in ("rest", "name"):
        return [f"record form {form}"]
    if form[0] == "rest":
        right = len(form) == 3 and all(isinstance(truth, bool) for truth in form[1:])
        return [] if right else [f"record form {form}"]
    _, name, absent, branches = form
    faults = [] if name > after else [f"name {name} behind {after}"]
    if branches == branches_unseen(absent):
        faults.append(f"needless name {name}")
    faults += faults_of_record_form(absent, name) + faults_of_branches(branches, SHUT)
    for kind, inner in branches:
        faults += faults_of_record_form(inner, name)
    return faults


def faults_of_branches(branches, none):
    if not isinstance(branches, tuple) or not all(isinstance(b, tuple) and len(b) == 2 for b in branches):
        return [f"branches {branches}"]
    faults = []
    if list(branches) != sorted(branches):
        faults.append(f"branches unsorted {branches}")
    for kind, form in branches:
        if kind == PLAIN_NOTHING or form == none:
            faults.append(f"a branch that lets nothing in {branches}")
        faults += faults_of_kind(kind)
    for (one, form), (other, other_form) in itertools.combinations(branches, 2):
        if form == other_form:
            faults.append(f"two branches with one form {branches}")
        if overlap(one, other):
            faults.append(f"two branches with a thing in common {branches}")
    return faults


def branches_unseen(absent):
    wide = opened_slowly(absent)
    return () if wide == SHUT else ((PLAIN_ANY, wide),)


def opened_slowly(form):
    if form[0] == "rest":
        return ("rest", form[2], form[2])
    _, name, absent, branches = form
    wide = opened_slowly(absent)
    kinds = {}
    for kind, inner in branches:
        inner = opened_slowly(inner)
        if inner != SHUT:
            kinds[inner] = join(kinds[inner], kind) if inner in kinds else kind
    told = tuple(sorted((kind, inner) for inner, kind in kinds.items()))
    return wide if told == branches_unseen(wide) else ("name", name, wide, told)


# ---- Whether two kinds have a thing in common.

def overlap(one, other):
    return (
        (one[0] and other[0])
        or bool(set(one[1]) & set(other[1]))
        or any(pairs_overlap(a, b) for a in one[2] for b in other[2])
        or texts_overlap(one[3], other[3])
        or lists_overlap(one[4], other[4])
        or records_overlap(one[5], other[5])
    )


def pairs_overlap(one, other):
    return all(not low or not high or low[0] <= high[0] for low, high in ((one[0], other[1]), (other[0], one[1])))


def texts_overlap(one, other):
    if one[0] == "but":
        return other[0] == "but" or bool(set(other[1]) - set(one[1]))
    return bool(set(one[1]) - set(other[1]) if other[0] == "but" else set(one[1]) & set(other[1]))


def lists_overlap(one, other):
    if ("no",) in (one, other):
        return False
    if ("all",) in (one, other):
        return True
    if one[1] and other[1]:
        return True
    return any(overlap(a[0], b[0]) and lists_overlap(a[1], b[1]) for a in one[2] for b in other[2])


def records_overlap(one, other):
    if one[0] == "rest" and other[0] == "rest":
        return one[1] and other[1] or one[2] and other[2]
    name = min(form[1] for form in (one, other) if form[0] == "name")
    absents, branches = [], []
    for form in (one, other):
        looks = form[0] == "name" and form[1] == name
        absents.append(form[2] if looks else form)
        branches.append(form[3] if looks else branches_unseen(form))
    if records_overlap(*absents):
        return True
    return any(overlap(a[0], b[0]) and records_overlap(a[1], b[1]) for a in branches[0] for b in branches[1])


# ---- Spaces: all things parted into cells, told as a list of (marks, thing, kind): of each cell what it is known
# by, one of its things, and the kind of its things, made by the program. A set of cells is then a kind that can be
# made in many ways.

def number(n):
    return of_numbers(n, n)


def numbers_space():
    zero, one = number(0), number(1)
    return [
        (("zero",), ("number", 0), zero),
        (("one",), ("number", 1), one),
        (("other",), ("none",), less(less(ANY, zero), one)),
    ]


# Lists of no item, of one, of two, and of more, by their first two items; and what is no list.
def lists_space(space):
    cells = [(("no list",) * 3, ("number", 7), less(ANY, of_sort("list")))]
    for length in (0, 1, 2, 3):
        for chosen in itertools.product(space, repeat=min(length, 2)):
            kinds = [kind for _, _, kind in chosen]
            items = [thing for _, thing, _ in chosen] + [("none",)] * (length - len(chosen))
            marks = (length,) + tuple(marks for marks, _, _ in chosen) + ("none",) * (2 - len(chosen))
            told = of_list(kinds + [ANY], True) if length == 3 else of_list(kinds)
            cells.append((marks, ("list", tuple(items)), told))
    return cells


# Records by what they have at each of the names, and whether they have others; and what is no record.
def records_space(space, names, other):
    lacking = ("lacking", None, NOTHING)
    cells = [(("no record",) * (len(names) + 1), ("number", 7), less(ANY, of_sort("record")))]
    for chosen in itertools.product([lacking] + space, repeat=len(names)):
        looked_at = list(zip(names, chosen))
        fields = [(name, kind, thing is not None) for name, (_, thing, kind) in looked_at]
        things = [(name, thing) for name, (_, thing, _) in looked_at if thing is not None]
        marks = tuple(marks for marks, _, _ in chosen)
        cells.append((marks + (False,), ("record", tuple(sorted(things))), of_record(fields)))
        wide = less(of_record(fields, True), of_record(fields))
        cells.append((marks + (True,), ("record", tuple(sorted(things + [(other, ("none",))]))), wide))
    return cells


# A set of cells that hangs on some of their marks alone: so that there is much to be put together.
def some_cells(chance, space):
    marks = [k for k in range(len(space[0][0])) if chance.random() < 0.6]
    share = chance.choice((0.1, 0.5, 0.9))
    known = {}
    told = []
    for k, cell in enumerate(space):
        told.append(known.setdefault(tuple(cell[0][m] for m in marks), chance.random() < share))
    return [k for k, wanted in enumerate(told) if wanted]


def joined(chance, space, cells):
    kinds = [space[k][2] for k in cells]
    chance.shuffle(kinds)
    kind = NOTHING
    for other in kinds:
        kind = join(kind, other) if chance.random() < 0.5 else join(other, kind)
    return kind


def all_less(chance, space, cells):
    kinds = [space[k][2] for k in range(len(space)) if k not in cells]
    chance.shuffle(kinds)
    kind = ANY
    for other in kinds:
        kind = less(kind, other)
    return kind


def spaces():
    plain = numbers_space()
    pairs = records_space(plain, ["b"], "a")
    one_item = [cell for cell in lists_space(plain) if cell[0][0] in ("no list", 0, 1)]
    rest = NOTHING
    for cell in lists_space(plain):
        if cell[0][0] in (2, 3):
            rest = join(rest, cell[2])
    one_item.append((("longer",) * 3, ("list", (("none",),) * 2), rest))
    return [
        ("numbers", plain),
        ("lists", lists_space(plain)),
        ("records", records_space(plain, ["b", "bb", "d"], "bc")),
        ("records of one name", pairs),
        ("lists of records", lists_space(pairs)),
        ("records of lists", records_space(one_item, ["a", "c"], "b")),
        ("records of records", records_space(pairs, ["a", "z"], "m")),
    ]


# ---- Expressions, read by parting their words where no bracket is open.

class NoTree(Exception):
    pass


PLAIN_WORDS = "none yes no truth number text list record any nothing".split()


def name_slowly(words):
    if len(words) != 1 or not words[0].isalpha():
        raise NoTree
    return words[0]


def path_slowly(words):
    return tuple(name_slowly(part) for part in parted_at(".", words))


def parted_at(sign, words):
    parts, depth = [[]], 0
    for k, word in enumerate(words):
        depth += (word in ("(", "[", "{")) - (word in (")", "]", "}"))
        name = sign == "else" and k > 0 and words[k - 1] in ("@", ".")
        if word == sign and depth == 0 and not name:
            parts.append([])
        else:
            parts[-1].append(word)
    return parts


def tree_slowly(words, free=True):
    for sign, name in (("|", "or"), ("&", "and")):
        parts = parted_at(sign, words)
        if len(parts) > 1:
            return (name, tuple(tree_slowly(part, free) for part in parts))
    if not words:
        raise NoTree
    if words[0] == "!":
        return ("not", tree_slowly(words[1:], False))
    if words[0] == "@" and free:
        return ("place", path_slowly(words[1:]))
    if words[0] in ("(", "[", "{") and len(words) > 1:
        return bracket_slowly(words, free)
    if len(words) == 1 and words[0] in PLAIN_WORDS:
        return ("word", words[0])
    if len(words) == 1 and words[0][0] == '"':
        return ("text", words[0][1:-1])
    return span_slowly(words)


def span_slowly(words):
    ends = parted_at("..", words)
    if len(ends) > 2 or any(len(end) > 1 for end in ends) or not any(ends):
        raise NoTree
    numbers = []
    for end in ends:
        if end and not end[0].lstrip("-").isdigit():
            raise NoTree
        numbers.append(int(end[0]) if end else None)
    return ("span", numbers[0], numbers[-1])


def bracket_slowly(words, free):
    depth = 0
    for k, word in enumerate(words):
        depth += (word in ("(", "[", "{")) - (word in (")", "]", "}"))
        if depth == 0 and k < len(words) - 1:
            raise NoTree
    if words[0] + words[-1] not in ("()", "[]", "{}"):
        raise NoTree
    if words[0] == "(":
        return tree_slowly(words[1:-1], free)
    parts = parted_at(",", words[1:-1]) if len(words) > 2 else []
    more = parts[-1:] == [[".."]]
    parts = parts[:-1] if more else parts
    if words[0] == "[":
        return ("list", tuple(tree_slowly(part, False) for part in parts), more)
    fields = tuple(field_slowly(part) for part in parts)
    if len({field[0] for field in fields}) < len(fields):
        raise NoTree
    return ("record", fields, more)


def field_slowly(words):
    head, *tail = parted_at(":", words)
    if len(tail) != 1:
        raise NoTree
    must = head[-1:] != ["?"]
    return (name_slowly(head if must else head[:-1]), tree_slowly(tail[0], False), must)


def row_slowly(words):
    head, *tail = parted_at(":", words)
    if len(tail) != 1:
        raise NoTree
    return (path_slowly(head), tuple(tree_slowly(part) for part in parted_at("else", tail[0])))


# ---- Whether an expression has a thing, where each place has the things that are told for it.

def tree_has(tree, thing, places):
    word = tree[0]
    if word == "word":
        if tree[1] in ("yes", "no"):
            return thing == ("truth", tree[1] == "yes")
        return tree[1] == "any" or tree[1] == thing[0]
    if word == "span":
        return thing[0] == "number" and (tree[1] is None or tree[1] <= thing[1]) and (tree[2] is None or thing[1] <= tree[2])
    if word == "text":
        return thing == tree
    if word == "list":
        return thing[0] == "list" and list_has(tree, thing[1], places)
    if word == "record":
        return thing[0] == "record" and record_has(tree, dict(thing[1]), places)
    if word == "place":
        return thing in places[tree[1]]
    if word == "not":
        return not tree_has(tree[1], thing, places)
    return (all if word == "and" else any)(tree_has(inner, thing, places) for inner in tree[1])


def list_has(tree, items, places):
    _, inner, more = tree
    if len(items) < len(inner) or (len(items) > len(inner) and not more):
        return False
    return all(tree_has(one, item, places) for one, item in zip(inner, items))


def record_has(tree, fields, places):
    _, inner, more = tree
    if not more and set(fields) - {name for name, _, _ in inner}:
        return False
    for name, one, must in inner:
        if name in fields and not tree_has(one, fields[name], places) or must and name not in fields:
            return False
    return True


# ---- Trees by chance.

def some_tree(chance, depth, places=()):
    word = chance.choice(("word", "span", "text", "list", "record", "not", "and", "or", "place"))
    if depth == 0 or word in ("word", "span", "text"):
        if word == "span":
            return ("span", chance.choice((None, 0, 1)), chance.choice((0, 1, 2)))
        if places and chance.random() < 0.4:
            return ("place", chance.choice(places))
        return ("text", chance.choice(("", "a"))) if word == "text" else ("word", chance.choice(PLAIN_WORDS))
    if word == "place":
        return ("place", chance.choice(places)) if places else ("word", "any")
    if word == "list":
        return ("list", tuple(some_tree(chance, depth - 1) for _ in range(chance.randrange(3))), chance.random() < 0.5)
    if word == "record":
        names = chance.sample(("a", "b", "c"), chance.randrange(4))
        fields = tuple((name, some_tree(chance, depth - 1), chance.random() < 0.5) for name in names)
        return ("record", fields, chance.random() < 0.5)
    if word == "not":
        return ("not", some_tree(chance, depth - 1))
    return (word, tuple(some_tree(chance, depth - 1, places) for _ in range(chance.choice((2, 2, 3)))))


# ---- What is left of some records, gone through one by one. The rows are so that no other things than VALUES can
# stand at the names a, b and c; a record may have any other names, which no row speaks of.

VALUES = [("number", 1), ("number", 2), ("record", ()), ("record", (("x", ("number", 1)),)), ("record", (("x", ("number", 2)),))]
BOUNDS = ["a: 1 | 2 | {x?: 1 | 2}", "b: 1 | 2 | {x?: 1..2}", "c: 1..2 | {} | {x: 1} | {x: 2}"]


def all_records():
    records = []
    for chosen in itertools.product([None] + VALUES, repeat=3):
        fields = tuple((name, thing) for name, thing in zip("abc", chosen) if thing is not None)
        records.append(("record", fields))
    return records


def thing_at(thing, path):
    for name in path:
        thing = dict(thing[1]).get(name) if thing is not None and thing[0] == "record" else None
    return thing


class ThingsAt(dict):
    def __init__(self, records):
        self.records = records

    def __missing__(self, path):
        self[path] = {thing_at(record, path) for record in self.records} - {None}
        return self[path]


def turn_slowly(rows, records, candidates):
    places = ThingsAt(records)
    known = {}

    def fits(record):
        for path, trees in rows:
            thing = thing_at(record, path)
            if (path, trees, thing) not in known:
                known[path, trees, thing] = thing is not None and any(tree_has(tree, thing, places) for tree in trees)
            if not known[path, trees, thing]:
                return False
        return True

    return [record for record in candidates if fits(record)]


def left_slowly(rows):
    records = all_records()
    while True:
        left = turn_slowly(rows, records, records)
        if left == records:
            return left
        records = left


# Lines with the bounds among them, without a ring that builds, told by the given look for one.
def some_lines(chance, ring_of, most=4):
    paths = ["a", "b", "c", "a.x", "b.x", "c.x"]
    while True:
        lines = list(BOUNDS)
        for _ in range(chance.randrange(most + 1)):
            lines.append(chance.choice(paths) + ": " + " else ".join(
                some_expression(chance, paths) for _ in range(chance.choice((1, 1, 2, 3)))
            ))
        chance.shuffle(lines)
        if ring_of(lines) is None:
            return lines


def some_expression(chance, paths):
    parts = []
    for _ in range(chance.choice((1, 1, 1, 2, 3))):
        parts.append(chance.choice(("@" + chance.choice(paths),) * 3 + ("1", "2", "1..2", "{x: 1}", "{..}", "{x?: 2}", "!1", "number", "any", "!{}")))
    return chance.choice((" & ", " | ")).join(parts)

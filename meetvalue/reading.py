"""The reading of expressions, paths and rows."""

from meetvalue.errors import NoText
from meetvalue.things import is_name
from meetvalue.words import is_figure, words_of

PLAIN_WORDS = ("none", "yes", "no", "truth", "number", "text", "list", "record", "any", "nothing")


# The words of a text and how many of them are taken. No word is empty: so "" stands for the end.
class Reader:
    def __init__(self, text):
        self.words = words_of(text)
        self.taken = 0

    def ahead(self, steps):
        place = self.taken + steps
        return self.words[place] if place < len(self.words) else ""

    def take(self):
        word = self.ahead(0)
        self.taken += 1
        return word

    def takes(self, word):
        if self.ahead(0) != word:
            return False
        self.taken += 1
        return True

    def must_take(self, word):
        found = self.take()
        if found != word:
            raise NoText(f"{found!r} stands where {word!r} should")


def read(text):
    reader = Reader(text)
    tree = expression(reader, True)
    reader.must_take("")
    return tree


def read_path(text):
    reader = Reader(text)
    path = names_of(reader)
    reader.must_take("")
    return path


def read_row(line):
    reader = Reader(line)
    path = names_of(reader)
    reader.must_take(":")
    trees = [expression(reader, True)]
    while reader.takes("else"):
        trees.append(expression(reader, True))
    reader.must_take("")
    return (path, tuple(trees))


# A line end is a line feed alone: splitlines would take others for one, too.
def read_rows(text):
    if not isinstance(text, str):
        raise NoText("not a text")
    return [read_row(line) for line in text.split("\n") if words_of(line) != []]


# free is True where a place may stand: within no "!", no "[ ]" and no "{ }".
def expression(reader, free):
    alternatives = []
    parts = [negated(reader, free)]
    while reader.ahead(0) in ("&", "|"):
        if reader.take() == "|":
            alternatives.append(one_or_several("and", parts))
            parts = []
        parts.append(negated(reader, free))
    alternatives.append(one_or_several("and", parts))
    return one_or_several("or", alternatives)


def one_or_several(word, trees):
    return trees[0] if len(trees) == 1 else (word, tuple(trees))


def negated(reader, free):
    times = 0
    while reader.takes("!"):
        times += 1
    tree = single(reader, free and times == 0)
    for turn in range(times):
        tree = ("not", tree)
    return tree


def single(reader, free):
    word = reader.take()
    if word == "(":
        tree = expression(reader, free)
        reader.must_take(")")
        return tree
    if word == "[":
        return list_tree(reader)
    if word == "{":
        return record_tree(reader)
    if word == "@" and free:
        return ("place", names_of(reader))
    if word == ".." and is_number(reader.ahead(0)):
        return ("span", None, int(reader.take()))
    if is_number(word):
        return span_tree(reader, int(word))
    if word[:1] == "\"":
        return ("text", word[1:-1])
    if word in PLAIN_WORDS:
        return ("word", word)
    raise NoText(f"no expression begins with {word!r} here")


def is_number(word):
    return word != "" and (word[0] == "-" or is_figure(word[0]))


def span_tree(reader, low):
    if not reader.takes(".."):
        return ("span", low, low)
    return ("span", low, int(reader.take()) if is_number(reader.ahead(0)) else None)


def list_tree(reader):
    items = []
    while has_another(reader, "]", len(items)):
        items.append(expression(reader, False))
    return ("list", tuple(items), takes_end(reader, "]"))


def record_tree(reader):
    fields = []
    names = {}
    while has_another(reader, "}", len(fields)):
        field = field_of(reader)
        name = field[0]
        if name in names:
            raise NoText(f"{name!r} twice")
        names[name] = True
        fields.append(field)
    return ("record", tuple(fields), takes_end(reader, "}"))


# Whether another part stands ahead within brackets; the comma between two is taken.
def has_another(reader, close, count):
    if reader.ahead(0) == close:
        return False
    if count > 0:
        reader.must_take(",")
    return not (reader.ahead(0) == ".." and reader.ahead(1) == close)


def takes_end(reader, close):
    more = reader.takes("..")
    reader.must_take(close)
    return more


def field_of(reader):
    name = name_of(reader)
    must = not reader.takes("?")
    reader.must_take(":")
    return (name, expression(reader, False), must)


def names_of(reader):
    names = [name_of(reader)]
    while reader.takes("."):
        names.append(name_of(reader))
    return tuple(names)


def name_of(reader):
    word = reader.take()
    if not is_name(word):
        raise NoText(f"{word!r} stands where a name should")
    return word

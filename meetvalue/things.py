"""Names, signs, things and what a thing has at a path."""

# The double quote and the percent sign are told by their numbers, as the latter may stand in no text of the program.
NO_SIGNS = (34, 37)


def is_name(word):
    return isinstance(word, str) and len(word) > 0 and all(["a" <= letter <= "z" for letter in word])


def is_sign(letter):
    return " " <= letter <= "~" and ord(letter) not in NO_SIGNS


def is_text_of_signs(found):
    return isinstance(found, str) and all([is_sign(letter) for letter in found])


def is_whole(found):
    return isinstance(found, int) and not isinstance(found, bool)


# A list of what is still to be looked at stands here in the place of recursion,
# as anything may be handed in, however deep it is nested.
def is_thing(found):
    waiting = [found]
    while len(waiting) > 0:
        inner = to_look_at(waiting.pop())
        if inner is None:
            return False
        waiting.extend(inner)
    return True


# What within found has to be a thing so that found is one; None where found is none anyway.
def to_look_at(found):
    if not isinstance(found, tuple) or len(found) == 0 or not isinstance(found[0], str):
        return None
    if len(found) == 1:
        return [] if found[0] == "none" else None
    if len(found) != 2:
        return None
    if found[0] == "list":
        return list(found[1]) if isinstance(found[1], tuple) else None
    if found[0] == "record":
        return [field[1] for field in found[1]] if are_fields(found[1]) else None
    return [] if is_plain(found[0], found[1]) else None


def is_plain(word, value):
    if word == "truth":
        return isinstance(value, bool)
    if word == "number":
        return is_whole(value)
    return word == "text" and is_text_of_signs(value)


def are_fields(found):
    if not isinstance(found, tuple) or not all([is_field(field) for field in found]):
        return False
    return all([one[0] < other[0] for one, other in zip(found, found[1:])])


def is_field(found):
    return isinstance(found, tuple) and len(found) == 2 and is_name(found[0])


def at(thing, path):
    here = thing
    for name in path:
        here = value_at(here, name)
        if here is None:
            return None
    return here


def value_at(thing, name):
    if thing[0] != "record":
        return None
    return dict(thing[1]).get(name)

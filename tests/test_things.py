import unittest

from meetvalue.things import at, is_name, is_thing

SIGNS = "".join([chr(n) for n in range(32, 127) if chr(n) not in '%"'])
FIFTY = 10 ** 49 + 7

THINGS = [
    ("none",),
    ("truth", True),
    ("truth", False),
    ("number", 0),
    ("number", 1),
    ("number", -1),
    ("number", FIFTY),
    ("number", -FIFTY),
    ("text", ""),
    ("text", "a"),
    ("text", " "),
    ("text", SIGNS),
    ("list", ()),
    ("list", (("none",),)),
    ("list", (("number", 1), ("number", 1), ("text", "x"))),
    ("record", ()),
    ("record", (("a", ("none",)),)),
    ("record", (("a", ("number", 1)), ("ab", ("number", 1)), ("b", ("record", ())), ("z", ("list", ())))),
]


class Odd:
    def __eq__(self, other):
        raise RuntimeError("not to be compared")

    def __len__(self):
        raise RuntimeError("not to be measured")

    def __iter__(self):
        raise RuntimeError("not to be walked")

    __hash__ = None


NO_TUPLES = [
    None, True, False, 0, 1, 1.5, 2j, "", "none", "number", b"none", [], ["none"], ["number", 1], {}, {"none": 1},
    {"none"}, frozenset(["none"]), object(), Odd(), Odd, len, range(2), iter(()), ("none" for k in ()), float("nan"),
]

NAMES_THAT_ARE_NONE = [
    "", "A", "aB", "Ab", "a1", "1", "a b", " a", "a ", "a.b", "a_b", "a-b", "\u00e4", "a\u00e4", "a\n", "`", "{", "a{",
    None, True, 1, 1.5, b"a", ("a",), ["a"], {"a": 1}, object(), Odd(),
]

SIGNS_THAT_ARE_NONE = ['%', '"', "\n", "\t", "\r", "\0", "\x1f", "\x7f", "\x80", "\u00e4", "\u20ac", "\U0001f600"]

WRONG_PARTS = [
    # No part, a part too few, a part too many.
    (),
    ("none", ()), ("none", None), ("none", ("none",)), ("none", "none"), ("none", None, None),
    ("truth",), ("truth", True, True), ("truth", False, False),
    ("number",), ("number", 1, 1),
    ("text",), ("text", "a", "a"),
    ("list",), ("list", (), ()), ("list", ("none",)), ("list", ("none",), ("none",)),
    ("record",), ("record", (), ()), ("record", (("a", ("none",)),), ()),
    # Another word ahead.
    ("",), ("None",), ("nothing",), ("truth ", True), ("Truth", True), ("bool", True), ("int", 1), ("numbers", 1),
    ("str", "a"), ("word", "a"), ("tuple", ()), ("lists", ()), ("records", ()), ("dict", ()), ("yes",), ("no",),
    (None,), (None, 1), (1, 1), (True, True), (("none",),), (("number",), 1), (b"none",), (Odd(),), (Odd(), 1),
    (["none"],), ({}, 1), (1, "number"), (True, "truth"),
    # One of the six words with what belongs to another.
    ("truth", "a"), ("truth", None), ("truth", ()), ("truth", 1.0), ("truth", Odd()), ("truth", "True"),
    ("number", "1"), ("number", None), ("number", ()), ("number", 1.0), ("number", Odd()), ("number", (1,)),
    ("text", 1), ("text", None), ("text", ()), ("text", b"a"), ("text", ("a",)), ("text", ["a"]), ("text", Odd()),
    ("list", ""), ("list", "a"), ("list", None), ("list", 1), ("list", {}), ("list", Odd()), ("list", True),
    ("record", ""), ("record", "a"), ("record", None), ("record", 1), ("record", {}), ("record", Odd()),
    ("record", {"a": ("none",)}), ("record", frozenset()),
    # A truth in the place of a whole number, and the other way round.
    ("number", True), ("number", False), ("truth", 1), ("truth", 0),
    # A list in the place of a tuple.
    ["none"], ["truth", True], ["number", 1], ["text", "a"], ["list", ()], ["record", ()],
    ("list", []), ("list", [("none",)]), ("record", []), ("record", [("a", ("none",))]), ("record", (["a", ("none",)],)),
    # Items and fields that are none.
    ("list", (1,)), ("list", (None,)), ("list", (("none",), "a")), ("list", ((),)),
    ("record", ("a",)), ("record", ("ab",)), ("record", ((),)), ("record", (("a",),)), ("record", (None,)),
    ("record", ("a", ("none",))), ("record", (("a", ("none",), ("none",)),)), ("record", (("a", 1),)),
    ("record", (("a", None),)), ("record", ((("none",), "a"),)), ("record", (Odd(),)), ("list", (Odd(),)),
    # Names unsorted or twice.
    ("record", (("b", ("none",)), ("a", ("none",)))),
    ("record", (("ab", ("none",)), ("a", ("none",)))),
    ("record", (("a", ("none",)), ("a", ("none",)))),
    ("record", (("a", ("none",)), ("a", ("number", 1)))),
    ("record", (("a", ("none",)), ("c", ("none",)), ("b", ("none",)))),
    ("record", (("a", ("none",)), ("b", ("none",)), ("b", ("none",)))),
    ("record", (("a", ("none",)), ("b", ("none",)), ("a", ("none",)))),
]

WRONG = (
    NO_TUPLES
    + WRONG_PARTS
    + [("record", ((name, ("none",)),)) for name in NAMES_THAT_ARE_NONE]
    + [("text", sign) for sign in SIGNS_THAT_ARE_NONE]
    + [("text", "a" + sign + "b") for sign in SIGNS_THAT_ARE_NONE]
)


def in_a_list(found):
    return ("list", (("number", 1), ("list", (found, ("none",)))))


def in_a_record(found):
    return ("record", (("a", ("none",)), ("b", ("record", (("c", found), ("d", ("none",)))))))


def deep(found, times):
    for k in range(times):
        found = ("list", (found,)) if k % 2 == 0 else ("record", (("a", found),))
    return found


class Names(unittest.TestCase):
    def test_names(self):
        for word in ["a", "z", "m", "az", "abc", "none", "else", "abcdefghijklmnopqrstuvwxyz", "a" * 30]:
            with self.subTest(word=word):
                self.assertIs(is_name(word), True)

    def test_what_is_no_name(self):
        for word in NAMES_THAT_ARE_NONE + NO_TUPLES[:6] + [("none",)]:
            if not (isinstance(word, str) and word in ("none", "number")):
                with self.subTest(word=repr(word)):
                    self.assertIs(is_name(word), False)


class Things(unittest.TestCase):
    def test_things(self):
        for thing in THINGS:
            with self.subTest(thing=thing):
                self.assertIs(is_thing(thing), True)

    def test_things_within_things(self):
        for thing in THINGS:
            for around in (in_a_list, in_a_record, lambda found: in_a_list(in_a_record(found))):
                with self.subTest(thing=thing):
                    self.assertIs(is_thing(around(thing)), True)

    def test_what_is_no_thing(self):
        for found in WRONG:
            with self.subTest(found=repr(found)):
                self.assertIs(is_thing(found), False)

    def test_what_is_no_thing_deep_within(self):
        for found in WRONG:
            with self.subTest(found=repr(found)):
                self.assertIs(is_thing(in_a_list(found)), False)
                self.assertIs(is_thing(in_a_record(found)), False)
                self.assertIs(is_thing(in_a_record(in_a_list(found))), False)
                self.assertIs(is_thing(deep(found, 18)), False)

    def test_each_sign(self):
        for number in range(300):
            with self.subTest(number=number):
                told = is_thing(("text", chr(number)))
                self.assertIs(told, 32 <= number <= 126 and number != 34 and number != 37)

    def test_nested_far_deeper_than_calls_go(self):
        self.assertIs(is_thing(deep(("none",), 5000)), True)
        self.assertIs(is_thing(deep(("none", 1), 5000)), False)

    def test_what_is_asked_about_stays_as_it_was(self):
        inner = ["a", 1]
        is_thing(("list", inner))
        is_thing(inner)
        self.assertEqual(inner, ["a", 1])


class At(unittest.TestCase):
    inner = ("record", (("x", ("number", 3)), ("y", ("list", (("record", (("a", ("none",)),)),)))))
    thing = ("record", (("a", ("number", 1)), ("ab", ("text", "t")), ("b", inner), ("none", ("none",))))

    def test_the_path_without_names(self):
        for thing in THINGS + [self.thing]:
            with self.subTest(thing=thing):
                self.assertEqual(at(thing, ()), thing)

    def test_names_that_are_there(self):
        self.assertEqual(at(self.thing, ("a",)), ("number", 1))
        self.assertEqual(at(self.thing, ("ab",)), ("text", "t"))
        self.assertEqual(at(self.thing, ("b",)), self.inner)
        self.assertEqual(at(self.thing, ("b", "x")), ("number", 3))
        self.assertEqual(at(self.thing, ("none",)), ("none",))

    def test_a_path_of_four_names(self):
        thing = ("truth", False)
        for name in ("d", "c", "b", "a"):
            thing = ("record", ((name, thing),))
        self.assertEqual(at(thing, ("a", "b", "c", "d")), ("truth", False))
        self.assertIs(at(thing, ("a", "b", "c", "e")), None)
        self.assertIs(at(thing, ("a", "b", "d", "c")), None)

    def test_a_name_that_the_record_lacks(self):
        self.assertIs(at(self.thing, ("c",)), None)
        self.assertIs(at(self.thing, ("x",)), None)
        self.assertIs(at(self.thing, ("b", "a")), None)
        self.assertIs(at(self.thing, ("c", "x")), None)
        self.assertIs(at(("record", ()), ("a",)), None)

    def test_a_path_into_what_is_no_record(self):
        for path in [("a", "b"), ("ab", "t"), ("none", "none"), ("b", "x", "y"), ("b", "y", "a"), ("a", "a", "a")]:
            with self.subTest(path=path):
                self.assertIs(at(self.thing, path), None)
        for thing in THINGS[:15]:
            with self.subTest(thing=thing):
                self.assertIs(at(thing, ("a",)), None)


if __name__ == "__main__":
    unittest.main()

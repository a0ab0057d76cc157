import random
import unittest
from unittest import mock

from meetvalue.covers import cover_of
from meetvalue.kinds import ANY, NOTHING, are_same, join, less
from meetvalue.making import just, of_list, of_numbers, of_record, of_sort, of_text, of_truth
from meetvalue.meaning import kind_of
from meetvalue.mixing import mixed_kinds
from meetvalue.reading import read
from meetvalue.rings import places_of
from meetvalue.showing import shown, shown_thing
from meetvalue.tables import Table, entered, entered_form, told
from slow import joined, number, some_cells, some_tree, spaces

ONE, TWO = number(1), number(2)
N = {k: ("number", k) for k in range(10)}
ROOTS = [NOTHING, ANY, of_sort("record"), of_record([("a", ONE, True)], True)]
LETTERS = "abcdefghijklmnopqrstuvwxyz"
NAMES = [one + other for one in LETTERS for other in LETTERS]


def record(**fields):
    return ("record", tuple(sorted(fields.items())))


THINGS = {
    "none": ("none",), "yes": ("truth", True), "no": ("truth", False), "0": N[0], "7": N[7], "-12": ("number", -12), '""': ("text", ""),
    '"a b"': ("text", "a b"), '"none"': ("text", "none"), '"[1, 2]"': ("text", "[1, 2]"), "[]": ("list", ()), "[1]": ("list", (N[1],)),
    "[1, 2]": ("list", (N[1], N[2])), '[none, yes, "", [], {}]': ("list", (("none",), ("truth", True), ("text", ""), ("list", ()), ("record", ()))),
    "{}": ("record", ()), "{a: 1}": record(a=N[1]), '{a: 1, b: "x"}': record(a=N[1], b=("text", "x")),
    "{a: [1, {b: no}], else: {none: none}}": record(
        **{"a": ("list", (N[1], record(b=("truth", False)))), "else": record(none=("none",))}
    ),
}


class ShownThing(unittest.TestCase):
    def test_texts(self):
        for text, thing in THINGS.items():
            with self.subTest(text=text):
                self.assertEqual(shown_thing(thing), text)

    def test_has_just_it(self):
        for thing in THINGS.values():
            with self.subTest(thing=thing):
                self.assertEqual(kind_of(read(shown_thing(thing)), NOTHING), just(thing))
                self.assertEqual(kind_of(read(shown(just(thing))), NOTHING), just(thing))

    def test_bounds(self):
        number_of_sixty = int("9" * 60)
        self.assertEqual(shown_thing(("number", -number_of_sixty)), "-" + "9" * 60)
        self.assertEqual(shown_thing(("text", "~" * 400)), '"' + "~" * 400 + '"')
        thing, text = N[1], "1"
        for k in range(20):
            thing, text = (("list", (thing,)), f"[{text}]") if k % 2 else (record(a=thing), "{a: " + text + "}")
        self.assertEqual(shown_thing(thing), text)
        self.assertEqual(kind_of(read(text), NOTHING), just(thing))
        self.assertEqual(shown_thing(("list", (N[1],) * 5000)), "[" + ", ".join(["1"] * 5000) + "]")


CLOSED = of_record([("a", ONE, True), ("b", TWO, False)])
KINDS = [
    NOTHING, ANY, of_sort("none"), of_truth(True), of_truth(False), of_sort("truth"), of_sort("number"), of_sort("text"), of_sort("list"),
    of_sort("record"), ONE, number(-1), of_numbers(1, 9), of_numbers(-9, -1), of_numbers(1, None), of_numbers(None, 1), of_numbers(None, -1),
    less(of_sort("number"), ONE), join(of_numbers(None, -5), join(ONE, of_numbers(5, None))), of_text(""), of_text("a"),
    of_text(" | "), of_text(" & "), less(of_sort("text"), of_text("a")), less(less(of_sort("text"), of_text(" & ")), of_text("")),
    join(of_text("a"), of_text("b")), less(ANY, of_text("a")), less(ANY, of_text(" | ")), less(ANY, less(of_sort("text"), of_text("a"))),
    less(ANY, ONE), less(ANY, of_numbers(1, 2)), less(ANY, of_sort("none")), less(ANY, of_truth(True)),
    less(ANY, join(of_sort("list"), of_sort("record"))), join(ONE, of_text("a")), join(of_sort("none"), of_sort("record")),
    of_list([]), of_list([ONE]), of_list([ONE], True), of_list([ANY], True), of_list([ANY]), of_list([of_numbers(1, None)]),
    of_list([of_numbers(1, None)], True), of_list([join(ONE, of_text("a")), less(ANY, ONE)]), less(of_sort("list"), of_list([])),
    less(of_sort("list"), of_list([ONE])), less(ANY, of_list([ONE, TWO], True)), join(of_list([]), of_list([ONE, ONE])), of_list([of_list([])]),
    join(of_list([ONE, ONE, ONE]), of_list([TWO])), less(of_sort("list"), of_list([ANY, ANY])), of_record([]), of_record([("a", ONE, True)]),
    CLOSED, of_record([("a", ONE, False)], True), of_record([("a", ONE, True), ("b", ANY, False)]), of_record([("a", NOTHING, False)], True),
    less(of_sort("record"), of_record([])), less(of_record([("a", ONE, True)], True), of_record([("a", ONE, True)])),
    less(of_sort("record"), CLOSED), less(ANY, CLOSED), less(ANY, of_record([("a", ONE, True)], True)), join(CLOSED, of_record([("b", ONE, True)])),
    of_record([("none", ONE, True), ("else", ANY, True)]), of_record([("a", CLOSED, True)]), less(of_sort("record"), of_record([("a", ANY, True)], True)),
    of_record([("a", less(ANY, of_list([CLOSED])), False)], True), join(of_list([CLOSED]), less(of_sort("record"), CLOSED)),
]


class Shown(unittest.TestCase):
    def hold(self, kind):
        text = shown(kind)
        tree = read(text)
        self.assertEqual(places_of([tree]), [])
        for root in ROOTS:
            self.assertEqual(kind_of(tree, root), kind)
        return text

    def test_each(self):
        for kind in KINDS:
            with self.subTest(kind=kind):
                self.hold(kind)

    # The desk tells this one sign by sign.
    def test_nothing(self):
        self.assertEqual(shown(NOTHING), "nothing")

    # Which of several is told is the program's own affair: it keeps to short ones.
    def test_short(self):
        for text in [
            "any", "number", "1 | 5..", "..-1 | 1..", 'text & !"a"', 'text & !"" & !"b"', "!1", "!truth", '!"a"', "!(1 | \"a\")", "!yes",
            "none | truth", "yes | 1..2", "list", "[]", "[1, ..]", "[any, ..]", "list & ![1, 1] & ![2, ..]", "![1, 2]", "[1] | [2, 2]", "7 | [1..2]",
            "record", "{}", "{a: 1, ..}", "{a?: 1}", "{a?: nothing, ..}", "record & !{a: 1, b: 1}", "!{a: 1}", "{a: 1, ..} & !{a: 1}", "{a: !1, b?: any}",
            "{a: 1, b: 1} | {a: 2, b: 2}", "none | {a: [1, ..], ..}", "!(none | [1] | {a: 1})", "none | record & !{a: 1, b: 2}",
            "{a: 1, b: 1, ..} | {c: 1, d: 1, ..} | {e: 1, f: 1, ..} | {g: 1, h: 1, ..}", "!(list | record & !{a: 1, b: 1})",
            "({a: 1, ..} | {a: 1..2, b: 1, ..}) & ({c: 1, ..} | {c: 1..2, d: 1, ..}) & ({e: 1, ..} | {e: 1..2, f: 1, ..})",
            "{a: 1, ..} | {b: 1, ..}", "{a: 1} | {b: 1}", "{a?: [1], b: 1..2} | {b: 1, ..}", "{a?: 1, b?: 1, c?: 1} | {a?: 2, b?: 2, c?: 2}",
            "{a: 1 | 3} | {a: 2, b: 1, ..} | {a: 3, c?: !1, ..}",
        ]:
            with self.subTest(text=text):
                self.assertEqual(shown(kind_of(read(text), NOTHING)), text)

    # Parted into what is met, that into what is joined, and so on, as deep as expressions may be.
    def test_one_within_another(self):
        table = Table()

        def wide(name):
            return entered(table, of_record([(name, ONE, True)], True))

        kind = wide("zzz")
        for name in reversed(NAMES[:25]):
            both = mixed_kinds(table, "and", wide(name + "c"), wide(name + "d"))
            either = mixed_kinds(table, "or", wide(name + "a"), wide(name + "b"))
            kind = mixed_kinds(table, "and", either, mixed_kinds(table, "or", both, kind))
        text = shown(told(table, kind))
        self.assertLess(len(text), 5000)
        self.assertTrue(are_same(kind_of(read(text), NOTHING), told(table, kind)))

    def test_sets_of_cells(self):
        chance = random.Random(11)
        for name, space in spaces():
            for turn in range(25):
                kind = joined(chance, space, some_cells(chance, space))
                with self.subTest(space=name, kind=kind):
                    self.hold(kind)
                    self.hold(less(ANY, kind))

    def test_trees_by_chance(self):
        chance = random.Random(12)
        for turn in range(600):
            tree = some_tree(chance, 4)
            with self.subTest(tree=tree):
                self.hold(kind_of(tree, NOTHING))

    # What takes too long to be told by few rows is told otherwise.
    def test_given_up(self):
        texts = [
            "{a: 1, b: 1, ..} | {b: 2, c: 1, ..} | {c: 2, d: 1, ..} | {d: 2, ..}", "{a: 1, b: 2} | {a: 2, b: 1} | {c: 3} | {d: 3, ..}",
            "({a: 1, ..} | {b: 1, ..}) & ({c: 1, d: 1, ..} | {e: 7, ..})",
        ]
        for looks, names in ((0, 60), (1, 60), (5, 60), (20, 60), (2000, 0), (2000, 1), (2000, 3), (2000, 60)):
            with mock.patch("meetvalue.covers.MOST_LOOKS", looks), mock.patch("meetvalue.covers.MOST_NAMES", names):
                for text in texts:
                    kind = kind_of(read(text), NOTHING)
                    table = Table()
                    with self.subTest(text=text, looks=looks, names=names):
                        cover = cover_of(table, entered_form(table, kind[5]))
                        if looks < 2 or names < 2:
                            self.assertIsNone(cover)
                        if (looks, names) == (2000, 60):
                            self.assertLess(len(cover), 6)
                        self.hold(kind)
        with mock.patch("meetvalue.covers.MOST_CELLS", 2):
            for text in texts:
                kind = kind_of(read(text), NOTHING)
                table = Table()
                self.assertIsNone(cover_of(table, entered_form(table, kind[5])))
                self.hold(kind)
        kind = kind_of(read(" | ".join("{k: %d, x: %d}" % (k, k) for k in range(0, 200, 2))), NOTHING)
        self.assertTrue(are_same(kind_of(read(shown(kind)), NOTHING), kind))
        many = NAMES[:80]
        text = " | ".join("{a: %d, %s: 1, ..}" % pair for pair in enumerate(many)) + " | {a?: !0..79, z: 1, ..}"
        kind = kind_of(read(text), NOTHING)
        self.assertTrue(are_same(kind_of(read(shown(kind)), NOTHING), kind))

    # Told way by way, these would have as many alternatives as two to the power of sixty.
    def test_many_ways(self):
        names = NAMES[:120]
        pairs = list(zip(names[::2], names[1::2]))
        shut = "{" + ", ".join(f"{name}?: any" for name in names) + "}"
        for texts in [
            [" | ".join("{%s: 1, %s: 1, ..}" % pair for pair in pairs)], [" & ".join("({%s: 1, ..} | {%s: 1, ..})" % pair for pair in pairs)],
            [shut] + ["!{%s: 1, %s: 1, ..}" % pair for pair in pairs], ["{" + ", ".join(f"{name}?: 1" for name in names) + "}"],
            ["{" + ", ".join(f"{name}?: 1" for name in names) + ", ..}"],
            ["!(" + " & ".join("({%s: 1, ..} | {%s: 1, ..})" % pair for pair in pairs) + ") & " + shut],
        ]:
            kind = kind_of(read(" & ".join(texts)), NOTHING)
            with self.subTest(texts=texts):
                text = shown(kind)
                self.assertLess(len(text), 20000)
                self.assertTrue(are_same(kind_of(read(text), NOTHING), kind))

    # The same by few names, so that == may tell.
    def test_parted(self):
        chance = random.Random(13)
        for turn in range(150):
            names = sorted(chance.sample("abcdefghij", chance.choice((6, 8, 10))))
            fields = [f"{name}{chance.choice(('', '?'))}: {chance.choice(('1', '2', '!1', 'any', '1 | 2'))}" for name in names]
            parts = []
            for k in range(0, len(names), 2):
                one, other = fields[k], fields[k + 1]
                parts.append(chance.choice(("({%s, ..} | {%s, ..})", "!{%s, %s, ..}", "({%s, %s, ..} | {..} & !{%s, ..})"))
                             .replace("%s", one, 1).replace("%s", other, 1).replace("%s", one, 1))
            if chance.random() < 0.5:
                parts.append("{" + ", ".join(f"{name}?: any" for name in names + chance.choice(([], ["k"]))) + "}")
            text = chance.choice((" & ", " | ")).join(parts)
            with self.subTest(text=text):
                self.hold(kind_of(read(text), NOTHING))
                self.hold(kind_of(read(f"record & !({text})"), NOTHING))

    def test_long_lists_and_many_names(self):
        ones = ["1"] * 3000
        many = [f"{name}: 1" for name in NAMES]
        for text in [
            "[" + ", ".join(ones) + "]", "![" + ", ".join(ones) + "]", "[2, ..] | [" + ", ".join(ones) + ", ..]",
            "list & ![" + ", ".join(ones) + "] & ![any, any]", "{" + ", ".join(many) + "}", "!{" + ", ".join(many) + ", ..}",
            "{" + ", ".join(many) + "} | {a: 1}", "[[" + ", ".join(ones) + "]]", "{" + ", ".join(f"{name}?: 1" for name in NAMES[:300]) + "}",
        ]:
            kind = kind_of(read(text), NOTHING)
            with self.subTest(text=text[:40]):
                self.assertTrue(are_same(kind_of(read(shown(kind)), NOTHING), kind))

    def test_depth(self):
        thing = N[1]
        for k in range(25):
            thing = ("list", (thing, ("none",))) if k % 2 else record(a=thing, b=("none",))
        for kind in (just(thing), less(ANY, just(thing)), join(just(thing), ONE)):
            self.hold(kind)

    # Kinds side by side with all but them, and so on within.
    def test_depth_of_all_but(self):
        kind = ONE
        for _ in range(20):
            kind = less(ANY, of_list([kind, TWO], True))
        self.assertTrue(are_same(kind_of(read(shown(kind)), NOTHING), kind))
        kind = ONE
        for _ in range(20):
            kind = join(of_record([("a", kind, False), ("b", TWO, True)]), of_record([("b", ONE, True)], True))
        self.assertLess(len(shown(kind)), 2000)
        self.assertTrue(are_same(kind_of(read(shown(kind)), NOTHING), kind))


if __name__ == "__main__":
    unittest.main()

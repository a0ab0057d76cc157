import random
import unittest

from meetvalue.kinds import ANY, NOTHING, join, less, meet
from meetvalue.looking import holds, only, part, placed, thing_of
from meetvalue.making import just, of_list, of_numbers, of_record, of_sort, of_text, of_truth
from meetvalue.meaning import kind_of
from meetvalue.reading import read
from meetvalue.things import at
from slow import faults_of_kind, is_in, number, some_tree, tree_has

ONE, TWO = number(1), number(2)
N = {k: ("number", k) for k in range(10)}
EMPTY = ("record", ())


def record(**fields):
    return ("record", tuple(sorted(fields.items())))


RECORDS = [
    record(a=N[1], b=record(c=N[2], d=("text", "a"))), record(a=("none",), b=N[1]), record(b=record(c=N[1])), EMPTY,
    record(a=record(a=record(a=record(a=N[2])))),
]
THINGS = [
    ("none",), ("truth", True), ("truth", False), N[0], N[1], N[2], N[3], ("text", ""), ("text", "a"), ("text", "b"), ("list", ()),
    ("list", (N[1],)), ("list", (("text", "a"), N[0])), ("list", (N[1], N[2], N[3])), ("list", (("list", ()),)), EMPTY, record(a=N[1]),
    record(b=N[1]), record(a=("none",), c=N[2]), record(a=N[0], b=N[1], c=N[2]), record(z=N[1]), record(a=record(b=N[1])),
    record(a=("list", (EMPTY,))), record(c=N[2], d=("text", "a")), record(a=N[1], d=("none",)),
]
PATHS = [("a",), ("b",), ("b", "c"), ("b", "d"), ("a", "a", "a", "a"), ("c",), ("a", "b")]
ROOTS = [NOTHING, ANY, of_sort("record"), of_sort("list"), of_record([("a", ONE, True)]), ONE, of_record([("a", TWO, False)], True)]

PLAIN = {
    "none": of_sort("none"), "yes": of_truth(True), "no": of_truth(False), "truth": of_sort("truth"), "number": of_sort("number"),
    "text": of_sort("text"), "list": of_sort("list"), "record": of_sort("record"), "any": ANY, "nothing": NOTHING,
    "1": ONE, "1..9": of_numbers(1, 9), "9..1": NOTHING, "1..": of_numbers(1, None), "..1": of_numbers(None, 1), "-3..-1": of_numbers(-3, -1),
    '"a b"': of_text("a b"), '""': of_text(""), "[]": of_list([]), "[..]": of_sort("list"), "[1, 2]": of_list([ONE, TWO]),
    "[1, ..]": of_list([ONE], True), "[1, nothing]": NOTHING, "{}": of_record([]), "{..}": of_sort("record"),
    "{b?: 2, a: 1}": of_record([("a", ONE, True), ("b", TWO, False)]), "{a: 1, ..}": of_record([("a", ONE, True)], True),
    "{a?: nothing, ..}": of_record([("a", NOTHING, False)], True), "{a: nothing}": NOTHING, "{a?: any, ..}": of_sort("record"),
    "!1": less(ANY, ONE), "!!1": ONE, "!any": NOTHING, "!nothing": ANY, "1 & 2": NOTHING, "1..5 & 3..9": of_numbers(3, 5),
    "1 | 2": of_numbers(1, 2), "1 | 2 & 3": ONE, "(1 | 2) & 2": TWO, "!1 & 1..2": TWO, "yes | no": of_sort("truth"),
    "none | truth | number | text | list | record": ANY, "!(none | yes)": less(less(ANY, of_sort("none")), of_truth(True)),
    "1 | 2 | 3 | 4 | 5": of_numbers(1, 5), "1.. & ..9 & !5 & number & any": join(of_numbers(1, 4), of_numbers(6, 9)),
    "[1 | 2, any] & [any, 1]": of_list([of_numbers(1, 2), ONE]), "{a: 1, ..} & {b: 2, ..}": of_record([("a", ONE, True), ("b", TWO, True)], True),
}


class KindOf(unittest.TestCase):
    def test_each_form_by_any_root(self):
        for text, kind in PLAIN.items():
            for root in ROOTS:
                with self.subTest(text=text, root=root):
                    self.assertEqual(kind_of(read(text), root), kind)

    def test_places(self):
        root = of_record([("a", of_record([("b", ONE, True)]), True), ("c", TWO, False)])
        for text, kind in {
            "@a": of_record([("b", ONE, True)]), "@a.b": ONE, "@a.b.c": NOTHING, "@a.c": NOTHING, "@c": TWO, "@d": NOTHING,
            "@c | @a.b": of_numbers(1, 2), "@c & @a.b": NOTHING, "@c & 2..9": TWO, "(@c) | none": join(TWO, of_sort("none")), "@d | 5": number(5),
            "@c | @c": TWO, "@a & {b: 2}": NOTHING, "1 | @c & 2 | 3": of_numbers(1, 3),
        }.items():
            with self.subTest(text=text):
                self.assertEqual(kind_of(read(text), root), kind)

    def test_places_of_roots_wide_and_shut(self):
        for root, text, kind in [
            (of_sort("record"), "@a", ANY), (of_sort("record"), "@a.b.c.d", ANY), (of_record([]), "@a", NOTHING), (NOTHING, "@a", NOTHING),
            (ANY, "@a", ANY), (of_sort("list"), "@a", NOTHING), (ONE, "@a.b", NOTHING), (of_record([("a", ONE, True)], True), "@a", ONE),
            (of_record([("a", ONE, True)], True), "@b", ANY), (of_record([("a", ONE, True)], True), "@a.b", NOTHING),
            (of_record([("a", ONE, False)]), "@a", ONE), (of_record([("a", NOTHING, False)], True), "@a", NOTHING),
            (placed(("a", "b"), TWO), "@a.b", TWO), (placed(("a", "b"), TWO), "@a.c", ANY), (placed(("a", "b"), TWO), "@a.b.c", NOTHING),
        ]:
            with self.subTest(root=root, text=text):
                self.assertEqual(kind_of(read(text), root), kind)
                self.assertEqual(kind_of(read(text), root), part(root, read(text)[1]))

    def test_held_against_a_slow_look(self):
        chance = random.Random(7)
        places = {path: [at(thing, path) for thing in RECORDS] for path in PATHS}
        root = NOTHING
        for thing in RECORDS:
            root = join(root, just(thing))
        for turn in range(1500):
            tree = some_tree(chance, 3, PATHS)
            kind = kind_of(tree, root)
            with self.subTest(tree=tree):
                self.assertEqual(faults_of_kind(kind), [])
                for thing in THINGS + RECORDS:
                    self.assertIs(is_in(kind, thing), tree_has(tree, thing, places))

    # What is the same by the rules of sets is told by equal tuples.
    def test_one_form(self):
        chance = random.Random(8)
        for turn in range(300):
            one, other, third = [some_tree(chance, 2) for _ in range(3)]
            for left, right in [
                (("and", (one, other)), ("and", (other, one, other))), (("or", (one, other)), ("or", (other, one, one))),
                (("not", ("and", (one, other))), ("or", (("not", one), ("not", other)))), (("not", ("not", one)), one),
                (("and", (one, ("or", (other, third)))), ("or", (("and", (one, other)), ("and", (one, third))))),
                (("or", (("or", (one, other)), third)), ("or", (one, ("or", (other, third))))),
                (("and", (one, ("not", one))), ("word", "nothing")), (("or", (one, ("not", one))), ("word", "any")),
            ]:
                with self.subTest(left=left, right=right):
                    self.assertEqual(kind_of(left, NOTHING), kind_of(right, NOTHING))

    def test_and_or_not_are_meet_join_and_all_but(self):
        one, other = read("{a: 1, ..}"), read("{b?: 2..5}")
        first, second = kind_of(one, NOTHING), kind_of(other, NOTHING)
        self.assertEqual(kind_of(("and", (one, other)), NOTHING), meet(first, second))
        self.assertEqual(kind_of(("or", (one, other)), NOTHING), join(first, second))
        self.assertEqual(kind_of(("not", one), NOTHING), less(ANY, first))

    def test_depth(self):
        self.assertEqual(kind_of(read("!" * 41 + "1"), NOTHING), less(ANY, ONE))
        self.assertEqual(kind_of(read("(1 | " * 60 + "2" + ")" * 60), NOTHING), of_numbers(1, 2))
        self.assertEqual(kind_of(read("!(1 | " * 60 + "2" + ")" * 60), NOTHING), TWO)
        tree = read("[{a: " * 10 + "1" + "}]" * 10)
        thing = N[1]
        for _ in range(10):
            thing = ("list", (record(a=thing),))
        self.assertEqual(only(kind_of(tree, NOTHING)), thing)

    # Some thousand items, names and alternatives are within a text of twenty thousand signs.
    def test_length(self):
        ones = "[" + ",".join(["1"] * 3000) + "]"
        kind = kind_of(read(f"{ones} | [2, ..]"), NOTHING)
        self.assertTrue(holds(kind, ("list", (N[1],) * 3000)))
        self.assertFalse(holds(kind, ("list", (N[1],) * 2999)))
        self.assertTrue(holds(kind, ("list", (N[2],))))
        kind = kind_of(read(f"!{ones} & list"), NOTHING)
        self.assertFalse(holds(kind, ("list", (N[1],) * 3000)))
        self.assertTrue(holds(kind, ("list", (N[1],) * 2999)))
        letters = "abcdefghijklmnopqrstuvwxyz"
        names = [one + other for one in letters for other in letters]
        text = "{" + ", ".join(f"{name}: 1" for name in names) + "}"
        self.assertEqual(only(kind_of(read(text), NOTHING)), ("record", tuple((name, N[1]) for name in names)))
        text = "{" + ", ".join(f"{name}?: 1" for name in names[:200]) + "} & {b: 1, ..} | {aa: 2}"
        self.assertEqual(thing_of(meet(kind_of(read(text), NOTHING), kind_of(read("{aa: any, ..}"), NOTHING))), record(aa=N[2]))
        self.assertEqual(kind_of(read("|".join(str(k) for k in range(3000))), NOTHING), of_numbers(0, 2999))
        self.assertEqual(kind_of(read("&".join(f"!{k}" for k in range(2000)) + "&-1..2000"), NOTHING), join(number(-1), number(2000)))


if __name__ == "__main__":
    unittest.main()

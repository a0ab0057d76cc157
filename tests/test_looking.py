import inspect
import itertools
import random
import sys
import unittest

from meetvalue.kinds import ANY, NOTHING, join, less, meet
from meetvalue.looking import beyond, holds, only, part, placed, thing_of
from meetvalue.making import just, of_list, of_numbers, of_record, of_sort, of_text, of_truth
from meetvalue.things import at, is_thing
from slow import SHUT, WIDE, is_in, joined, number, some_cells, spaces

ONE, TWO, THREE = number(1), number(2), number(3)
NONE = of_sort("none")
LETTERS = "abcdefghijklmnopqrstuvwxyz"
EMPTY = ("record", ())


def record(**fields):
    return ("record", tuple(sorted(fields.items())))


N = {k: ("number", k) for k in range(10)}

THINGS = [
    ("none",), ("truth", True), ("truth", False), N[0], N[1], N[2], ("text", ""), ("text", "a"), ("text", "b"),
    ("text", "none"), ("text", "truth"), ("text", "number"), ("text", "text"), ("text", "list"), ("text", "record"),
    ("list", ()), ("list", (("none",),)), ("list", (N[1],)), ("list", (N[2],)), ("list", (N[1], N[2])),
    ("list", (N[1], N[1], N[1])), EMPTY, record(a=N[1]), record(a=N[2]), record(b=N[1]), record(a=N[1], b=N[1]),
    record(a=N[1], c=N[2]), record(a=record(b=N[1])), record(none=N[1]), ("list", (record(a=N[1]),)),
]

KINDS = [
    NOTHING, ANY, NONE, of_truth(True), of_sort("truth"), of_sort("number"), ONE, of_numbers(1, None), of_numbers(None, 0),
    less(of_sort("number"), ONE), of_sort("text"), of_text("a"), less(of_sort("text"), of_text("a")), of_sort("list"),
    of_list([]), of_list([ONE]), of_list([ONE], True), of_list([of_numbers(1, 2), ANY]), less(of_sort("list"), of_list([])),
    join(of_list([ONE, ONE, ONE]), of_list([TWO])), of_sort("record"), of_record([]), of_record([("a", ONE, True)]),
    of_record([("a", ONE, False)]), of_record([("a", ONE, True)], True), of_record([("a", NOTHING, False)], True),
    of_record([("a", of_record([("b", ONE, True)]), True)]), less(of_sort("record"), of_record([])),
    less(of_record([("a", ONE, True)], True), of_record([("a", ONE, True)])),
    of_record([("a", ONE, True), ("b", ONE, False)]), of_list([of_record([("a", ONE, True)])]), less(ANY, just(THINGS[-1])),
]


def nested(inner, times):
    thing = inner
    for k in range(times):
        thing = ("list", (("none",), thing)) if k % 2 else ("record", (("a", ("none",)), ("z" * 30, thing)))
    return thing


class Holds(unittest.TestCase):
    def test_each_kind_and_thing(self):
        for kind in KINDS:
            for thing in THINGS:
                with self.subTest(kind=kind, thing=thing):
                    self.assertIs(holds(kind, thing), is_in(kind, thing))

    def test_sets_of_cells(self):
        chance = random.Random(3)
        for title, space in spaces():
            for _ in range(15):
                cells = some_cells(chance, space)
                kind = joined(chance, space, cells)
                for k, (marks, thing, cell) in enumerate(space):
                    self.assertIs(holds(kind, thing), k in cells)

    def test_names_beyond_those_looked_at(self):
        shut = of_record([("b", ONE, True), ("d", ONE, False)])
        wide = of_record([("b", ONE, True), ("d", ONE, False)], True)
        for name in ("a", "bb", "c", "e"):
            thing = ("record", tuple(sorted([("b", N[1]), (name, N[1])])))
            self.assertIs(holds(shut, thing), False)
            self.assertIs(holds(wide, thing), True)
        for thing in (record(b=N[1]), record(b=N[1], d=N[1])):
            self.assertIs(holds(shut, thing), True)
            self.assertIs(holds(less(wide, shut), thing), False)
        for thing in (EMPTY, record(d=N[1]), record(b=N[2]), record(b=N[1], d=N[2])):
            self.assertIs(holds(wide, thing), False)

    def test_a_long_list(self):
        thing = ("list", tuple([("number", k) for k in range(2000)]))
        self.assertIs(holds(just(thing), thing), True)
        self.assertIs(holds(just(thing), ("list", thing[1][:-1])), False)
        self.assertIs(holds(just(thing), ("list", thing[1][:-1] + (N[0],))), False)
        self.assertIs(holds(of_list([number(0)], True), thing), True)


class ThingOf(unittest.TestCase):
    def check(self, kind):
        told = thing_of(kind)
        if kind == NOTHING:
            self.assertIs(told, None)
        else:
            self.assertTrue(is_thing(told))
            self.assertTrue(is_in(kind, told))

    def test_nothing(self):
        self.assertIs(thing_of(NOTHING), None)
        self.assertIs(thing_of(of_numbers(2, 1)), None)
        self.assertIs(thing_of(meet(of_list([ONE]), of_list([TWO]))), None)
        self.assertIs(thing_of(meet(of_record([("a", ONE, True)], True), of_record([("b", ANY, True)]))), None)

    def test_a_thing_of_each_kind(self):
        for one in KINDS:
            self.check(one)
            for other in KINDS:
                self.check(meet(one, other))
                self.check(less(one, other))

    def test_the_only_one(self):
        for thing in THINGS + [nested(("truth", False), 20)]:
            self.assertEqual(thing_of(just(thing)), thing)

    def test_a_name_that_is_not_looked_at(self):
        wide = less(of_sort("record"), of_record([(letter, ANY, False) for letter in LETTERS]))
        self.check(wide)
        names = ["b", "a", "c"] + [letter for letter in LETTERS if letter > "c"] + [a + b for a in "abz" for b in LETTERS]
        for k in range(0, len(names), 7):
            looked_at = [(name, NOTHING, False) for name in names[:k]]
            kind = less(of_record(looked_at, True), of_record([]))
            self.check(kind)
            if k:
                must = of_record([(name, ONE, True) for name in names[:k]], True)
                self.check(less(must, of_record([(name, ONE, True) for name in names[:k]])))

    def test_names_sorted(self):
        kind = less(of_record([("b", ONE, True), ("c", ONE, True)], True), of_record([("b", ONE, True), ("c", ONE, True)]))
        self.check(kind)
        told = [name for name, value in thing_of(kind)[1]]
        self.assertEqual(told, sorted(told))
        self.assertEqual(len(told), 3)

    def test_sets_of_cells(self):
        chance = random.Random(4)
        for title, space in spaces():
            for _ in range(15):
                self.check(joined(chance, space, some_cells(chance, space)))


class Only(unittest.TestCase):
    def test_none(self):
        self.assertIs(only(NOTHING), None)
        self.assertIs(only(of_numbers(5, 4)), None)

    def test_one(self):
        for thing in THINGS:
            self.assertEqual(only(just(thing)), thing)
        self.assertEqual(only(meet(of_numbers(None, 3), of_numbers(3, None))), N[3])
        self.assertEqual(only(less(of_sort("truth"), of_truth(True))), ("truth", False))
        told = only(less(of_record([("a", ONE, False)]), of_record([])))
        self.assertEqual(told, record(a=N[1]))
        self.assertEqual(only(of_record([("a", NOTHING, False)])), EMPTY)
        self.assertEqual(only(of_list([ONE, of_list([])])), ("list", (N[1], ("list", ()))))
        deep = nested(("text", "x" * 400), 20)
        self.assertEqual(only(just(deep)), deep)

    def test_several(self):
        for kind in [
            ANY, of_sort("truth"), of_numbers(1, 2), of_numbers(1, None), of_numbers(None, None), of_sort("text"),
            join(of_text("a"), of_text("b")), join(ONE, THREE), join(NONE, ONE), of_list([], True), of_list([ONE], True),
            of_list([of_numbers(1, 2)]), join(of_list([]), of_list([ONE])), of_list([ANY]), of_record([], True),
            of_record([("a", ONE, True)], True), of_record([("a", ONE, False)]), of_record([("a", ANY, True)]),
            of_record([("a", NOTHING, False)], True), less(of_sort("record"), of_record([])), join(ONE, of_list([])),
            join(of_list([]), of_record([])), join(of_record([("a", ONE, True)]), of_record([("a", TWO, True)])),
            join(of_record([("a", ONE, True)]), of_record([("b", ONE, True)])), join(of_truth(True), of_text("")),
            less(of_sort("text"), of_text("a")), join(of_list([ONE, ONE]), of_list([TWO, TWO])),
        ]:
            with self.subTest(kind=kind):
                self.assertIs(only(kind), None)

    def test_two_things(self):
        for one, other in itertools.combinations(THINGS, 2):
            self.assertIs(only(join(just(one), just(other))), None)


class Beyond(unittest.TestCase):
    def test_each_two_kinds(self):
        for one in KINDS:
            for other in KINDS:
                told = beyond(one, other)
                if join(one, other) == other:
                    self.assertIs(told, None)
                else:
                    self.assertTrue(is_thing(told))
                    self.assertTrue(is_in(one, told) and not is_in(other, told))

    def test_ordinary(self):
        self.assertEqual(beyond(of_numbers(1, 3), join(ONE, TWO)), N[3])
        self.assertIs(beyond(ONE, of_numbers(0, 2)), None)
        self.assertIs(beyond(of_record([("a", ONE, True)]), of_record([("a", ONE, True)], True)), None)
        self.assertEqual(beyond(of_record([("a", ONE, False)]), of_record([("a", ONE, True)], True)), EMPTY)
        self.assertIs(beyond(NOTHING, NOTHING), None)
        self.assertIs(beyond(NOTHING, ANY), None)
        self.assertIs(beyond(ANY, ANY), None)
        self.assertTrue(is_thing(beyond(ANY, NOTHING)))


class Part(unittest.TestCase):
    def test_the_path_without_names(self):
        for kind in KINDS:
            self.assertEqual(part(kind, ()), kind)

    def test_names_that_records_lack_may_have_must_have(self):
        kind = of_record([("a", ONE, True), ("c", TWO, False), ("cc", NONE, False)])
        self.assertEqual(part(kind, ("a",)), ONE)
        self.assertEqual(part(kind, ("c",)), TWO)
        self.assertEqual(part(kind, ("cc",)), NONE)
        for name in ("aa", "b", "ca", "ccc", "d", "none"):
            self.assertEqual(part(kind, (name,)), NOTHING)
        self.assertEqual(part(of_record([]), ("a",)), NOTHING)

    def test_records_with_more(self):
        kind = of_record([("b", ONE, True), ("d", NOTHING, False)], True)
        self.assertEqual(part(kind, ("b",)), ONE)
        self.assertEqual(part(kind, ("d",)), NOTHING)
        for name in ("a", "bb", "c", "e"):
            self.assertEqual(part(kind, (name,)), ANY)
            self.assertEqual(part(kind, (name, "x", "y")), ANY)
        self.assertEqual(part(of_sort("record"), ("a",)), ANY)
        self.assertEqual(part(ANY, ("a",)), ANY)
        self.assertEqual(part(ANY, ("a", "b", "c", "d")), ANY)
        self.assertEqual(part(less(of_sort("record"), of_record([])), ("a",)), ANY)

    def test_into_what_is_no_record(self):
        for kind in (NOTHING, NONE, ONE, of_sort("text"), of_sort("list"), of_list([of_record([("a", ONE, True)])])):
            self.assertEqual(part(kind, ("a",)), NOTHING)
            self.assertEqual(part(of_record([("a", kind, True)]), ("a", "b")), NOTHING)
            self.assertEqual(part(kind, ("a", "b", "c", "d")), NOTHING)
        self.assertEqual(part(join(ONE, of_record([("a", TWO, True)])), ("a",)), TWO)

    def test_longer_paths(self):
        inner = of_record([("b", of_numbers(1, 3), True), ("c", of_record([("d", NONE, False)]), False)])
        kind = of_record([("a", join(inner, TWO), True)])
        self.assertEqual(part(kind, ("a",)), join(inner, TWO))
        self.assertEqual(part(kind, ("a", "b")), of_numbers(1, 3))
        self.assertEqual(part(kind, ("a", "c")), of_record([("d", NONE, False)]))
        self.assertEqual(part(kind, ("a", "c", "d")), NONE)
        self.assertEqual(part(kind, ("a", "d")), NOTHING)

    def test_all_branches_come_together(self):
        fields = [[("a", number(k), True), ("b", number(k * k), True)] for k in range(4)]
        kind = NOTHING
        for some in fields:
            kind = join(kind, of_record(some))
        kind = join(kind, of_record([("b", of_text("x"), True), ("c", NONE, True)]))
        self.assertEqual(part(kind, ("a",)), of_numbers(0, 3))
        numbers = join(of_numbers(0, 1), join(number(4), number(9)))
        self.assertEqual(part(kind, ("b",)), join(numbers, of_text("x")))
        self.assertEqual(part(kind, ("c",)), NONE)
        self.assertEqual(part(join(kind, of_record([("a", TWO, True)], True)), ("b",)), ANY)
        shut_then_wide = join(of_record([("a", ONE, True), ("b", ONE, True)]), of_record([("a", TWO, True)], True))
        self.assertEqual(part(shut_then_wide, ("aa",)), ANY)
        self.assertEqual(part(meet(shut_then_wide, placed(("a",), ONE)), ("aa",)), NOTHING)

    def test_sets_of_cells(self):
        chance = random.Random(8)
        for title, space in spaces():
            if title not in ("records", "records of lists", "records of records"):
                continue
            for _ in range(15):
                cells = some_cells(chance, space)
                kind = joined(chance, space, cells)
                names = {name for _, thing, _ in space if thing[0] == "record" for name, _ in thing[1]}
                for name in sorted(names):
                    told = part(kind, (name,))
                    self.check_part(told, kind, name, [space[k] for k in cells])

    # The part is just what comes together of the parts of the cells; and each of its things is had by a record.
    def check_part(self, told, kind, name, cells):
        whole = NOTHING
        for marks, thing, cell in cells:
            found = at(thing, (name,))
            if found is not None:
                self.assertTrue(is_in(told, found))
            whole = join(whole, part(cell, (name,)))
        self.assertEqual(told, whole)
        some = thing_of(told)
        if some is not None:
            self.assertNotEqual(meet(kind, placed((name,), just(some))), NOTHING)
        self.assertEqual(meet(kind, placed((name,), less(ANY, told))), NOTHING)

    def test_many_names_that_a_record_may_have(self):
        kind = of_record([(letter, number(k), False) for k, letter in enumerate(LETTERS)])
        self.assertEqual(part(kind, ("z",)), number(25))
        nonempty = less(kind, of_record([]))
        self.assertEqual(part(nonempty, ("z",)), number(25))
        self.assertEqual(part(nonempty, ("zz",)), NOTHING)


class Placed(unittest.TestCase):
    def test_ordinary(self):
        self.assertEqual(placed(("a",), ONE), of_record([("a", ONE, True)], True))
        inner = of_record([("b", ONE, True)], True)
        self.assertEqual(placed(("a", "b"), ONE), of_record([("a", inner, True)], True))
        self.assertEqual(placed(("b", "a"), ONE)[5][1], "b")
        self.assertEqual(placed(("a",), ANY)[5], ("name", "a", SHUT, ((ANY, WIDE),)))

    def test_nothing(self):
        for path in [("a",), ("a", "b"), ("a", "b", "c", "d")]:
            self.assertEqual(placed(path, NOTHING), NOTHING)

    def test_the_part_there_again(self):
        for length in (1, 2, 3, 4):
            for path in [("d", "c", "b", "a")[:length], ("a", "aa", "a", "z" * 30)[:length]]:
                for kind in KINDS:
                    told = placed(path, kind)
                    self.assertEqual(part(told, path), kind)
                    for thing in THINGS:
                        around = thing
                        for name in reversed(path):
                            around = ("record", ((name, around), ("zzzz" * 10, ("none",))))
                        self.assertIs(holds(told, around), is_in(kind, thing))
                        self.assertIs(is_in(told, around), is_in(kind, thing))
                self.assertFalse(is_in(placed(path, ANY), EMPTY))
                self.assertFalse(is_in(placed(path, ANY), N[1]))


class Bounds(unittest.TestCase):
    def test_things_nested_twenty_deep(self):
        one, other = nested(N[1], 20), nested(N[2], 20)
        depth = len(inspect.stack())
        limit = sys.getrecursionlimit()
        # Some hundred calls have to do.
        sys.setrecursionlimit(depth + 300)
        try:
            kind = join(just(one), just(other))
            self.assertTrue(holds(kind, one) and holds(kind, other))
            self.assertIn(thing_of(kind), (one, other))
            self.assertEqual(only(less(kind, just(one))), other)
            self.assertEqual(beyond(kind, just(other)), one)
            self.assertIs(beyond(just(one), kind), None)
            self.assertEqual(only(part(placed(("a", "b", "c", "d"), just(one)), ("a", "b", "c", "d"))), one)
        finally:
            sys.setrecursionlimit(limit)

    def test_big_numbers(self):
        most = 10 ** 60 - 1
        self.assertEqual(only(less(of_numbers(-most, most), of_numbers(1 - most, most))), ("number", -most))
        self.assertIs(holds(of_numbers(None, most - 1), ("number", most)), False)


class Arguments(unittest.TestCase):
    def test_names(self):
        for looked, names in [
            (holds, "(kind, thing)"), (thing_of, "(kind)"), (only, "(kind)"), (beyond, "(one, other)"),
            (part, "(kind, path)"), (placed, "(path, kind)"),
        ]:
            self.assertEqual(str(inspect.signature(looked)), names)


if __name__ == "__main__":
    unittest.main()

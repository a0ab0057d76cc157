# Lists of some thousand items and records of some thousand names. Such kinds are not compared by == here, which goes
# too deep by itself: they are asked by holds and thing_of, or compared number by number with are_same.
import unittest

from meetvalue.choices import settled
from meetvalue.desk import Desk
from meetvalue.kinds import ANY, NOTHING, are_same, join, less, meet, opened
from meetvalue.looking import beyond, holds, only, part, placed, thing_of
from meetvalue.making import just, of_list, of_numbers, of_record, of_sort, of_truth, with_part
from meetvalue.meaning import kind_of
from meetvalue.reading import read, read_rows
from meetvalue.showing import shown
from meetvalue.turns import come_to, turns
from slow import number

MANY = 4000
ONE, TWO = number(1), number(2)
N = {k: ("number", k) for k in range(10)}
LETTERS = "abcdefghijklmnopqrstuvwxyz"
NAMES = sorted(one + other + third for one in LETTERS for other in LETTERS for third in LETTERS)[:MANY]
LAST = NAMES[-1]


def items(*things):
    return ("list", tuple(things))


def record(fields):
    return ("record", tuple(sorted(fields.items())))


ALL_ONE = dict.fromkeys(NAMES, N[1])


class Lists(unittest.TestCase):
    def test_as_told(self):
        for n in (400, 1200, MANY):
            kind = meet(of_list([of_truth(True)] * n), of_list([of_truth(True)] * (n - 1) + [ANY]))
            self.assertTrue(holds(kind, items(*[("truth", True)] * n)))
            self.assertFalse(holds(kind, items(*[("truth", True)] * (n - 1) + [("none",)])))
            self.assertEqual(thing_of(kind), items(*[("truth", True)] * n))
            thing = items(*[("none",)] * n)
            self.assertEqual(only(just(thing)), thing)

    def test_mixed(self):
        ones, twos = of_list([ONE] * MANY), of_list([ONE] * (MANY - 1) + [TWO])
        long_one, long_two = items(*[N[1]] * MANY), items(*[N[1]] * (MANY - 1) + [N[2]])
        self.assertEqual(meet(ones, twos), NOTHING)
        both = join(ones, twos)
        for thing, held in ((long_one, True), (long_two, True), (items(*[N[1]] * (MANY - 1)), False), (items(*[N[2]] * MANY), False)):
            self.assertIs(holds(both, thing), held)
        self.assertEqual(thing_of(less(both, ones)), long_two)
        self.assertTrue(are_same(less(both, ones), twos))
        self.assertTrue(are_same(meet(both, of_list([ANY] * (MANY - 1) + [ONE])), ones))
        self.assertIsNone(only(both))
        self.assertEqual(only(less(both, twos)), long_one)
        self.assertEqual(beyond(both, twos), long_one)
        self.assertIsNone(beyond(ones, both))
        self.assertTrue(are_same(join(ones, twos), join(twos, ones)))
        self.assertFalse(are_same(ones, twos))

    # Ones that differ in their first items, too: so there are two ways to the late difference.
    def test_two_ways(self):
        one, other = of_list([ONE] * MANY), of_list([TWO] + [ONE] * (MANY - 2) + [TWO])
        both = join(one, other)
        long_one, long_other = items(*[N[1]] * MANY), items(N[2], *[N[1]] * (MANY - 2), N[2])
        for thing, held in ((long_one, True), (long_other, True), (items(N[2], *long_one[1][1:]), False), (items(N[1], *long_other[1][1:]), False)):
            self.assertIs(holds(both, thing), held)
            self.assertIs(holds(less(ANY, both), thing), not held)
        self.assertTrue(are_same(less(ANY, less(ANY, both)), both))
        self.assertEqual(only(less(both, one)), long_other)

    def test_more(self):
        wide = of_list([ONE] * MANY, True)
        self.assertTrue(holds(wide, items(*[N[1]] * (MANY + 1))))
        self.assertEqual(only(less(less(wide, of_list([ONE] * MANY + [ANY], True)), NOTHING)), items(*[N[1]] * MANY))
        lacking = less(of_sort("list"), wide)
        self.assertTrue(holds(lacking, items(*[N[1]] * (MANY - 1))))
        self.assertFalse(holds(lacking, items(*[N[1]] * MANY)))
        self.assertTrue(are_same(join(lacking, wide), of_sort("list")))
        self.assertEqual(join(lacking, wide), of_sort("list"))

    def test_within(self):
        inner = items(*[N[1]] * MANY)
        kind = of_record([("a", of_list([of_list([ONE] * MANY), ANY]), True)], True)
        thing = record({"a": items(inner, N[2])})
        self.assertTrue(holds(meet(kind, placed(("a",), of_list([ANY, TWO]))), thing))
        self.assertEqual(only(part(meet(kind, just(thing)), ("a",))), items(inner, N[2]))
        self.assertIsNone(only(part(kind, ("a",))))
        self.assertEqual(thing_of(less(part(kind, ("a",)), of_list([ANY, less(ANY, TWO)]))), items(inner, N[2]))
        # Side by side, and different late.
        one, other = of_list([of_list([ONE] * MANY), ONE]), of_list([of_list([ONE] * (MANY - 1) + [TWO]), TWO])
        both = join(one, other)
        self.assertTrue(holds(both, items(inner, N[1])))
        self.assertFalse(holds(both, items(inner, N[2])))
        self.assertTrue(are_same(less(both, one), other))
        self.assertTrue(are_same(less(ANY, less(ANY, both)), both))


class Records(unittest.TestCase):
    def test_must(self):
        for more in (False, True):
            ones = of_record([(name, ONE, True) for name in NAMES], more)
            last = of_record([(name, ONE, True) for name in NAMES[:-1]] + [(LAST, of_numbers(1, 2), True)], more)
            late = record({**ALL_ONE, LAST: N[2]})
            self.assertTrue(are_same(meet(ones, last), ones))
            self.assertTrue(are_same(join(ones, last), last))
            self.assertTrue(holds(meet(ones, last), record(ALL_ONE)))
            self.assertTrue(holds(less(last, ones), late))
            self.assertFalse(holds(less(last, ones), record(ALL_ONE)))
            self.assertEqual(beyond(last, ones), late)
            self.assertIsNone(beyond(ones, last))
            self.assertEqual(only(ones), None if more else record(ALL_ONE))
            self.assertEqual(part(last, (LAST,)), of_numbers(1, 2))
            self.assertEqual(part(last, (NAMES[0],)), ONE)
            self.assertEqual(part(last, ("zzzz",)), ANY if more else NOTHING)
            wide = opened(ones[5])
            self.assertEqual(holds(with_part("record", wide), record(ALL_ONE)), more)
            self.assertTrue(are_same(less(ANY, less(ANY, last)), last))

    def test_may_lack(self):
        for more, names in ((False, NAMES[:350]), (True, NAMES[:150])):
            some = of_record([(name, ONE, False) for name in names], more)
            last = of_record([(name, ONE, False) for name in names[:-1]] + [(names[-1], TWO, False)], more)
            two = record({names[-1]: N[2]})
            self.assertTrue(holds(join(some, last), two))
            self.assertFalse(holds(some, two))
            self.assertTrue(are_same(meet(some, some), some))
            self.assertEqual(thing_of(meet(less(last, some), of_record([(names[-1], ANY, True)]))), two)
            self.assertEqual(beyond(just(two), some), two)
            self.assertEqual(part(join(some, last), (names[-1],)), of_numbers(1, 2))
            self.assertEqual(holds(with_part("record", opened(some[5])), record({})), more)
            self.assertTrue(holds(some, record({name: N[1] for name in names[::2]})))

    # What may lack, and differs both at first and late.
    def test_may_lack_two_ways(self):
        names = NAMES[:350]
        one = of_record([(name, ONE, False) for name in names])
        other = of_record([(names[0], TWO, False)] + [(name, ONE, False) for name in names[1:-1]] + [(names[-1], TWO, False)])
        both = join(one, other)
        left = less(both, one)
        for first, late, held in ((1, 1, True), (2, 2, True), (1, 2, False), (2, 1, False)):
            self.assertIs(holds(both, record({names[0]: N[first], names[-1]: N[late]})), held)
            self.assertIs(holds(left, record({names[0]: N[first], names[-1]: N[late]})), first == late == 2)
        self.assertTrue(are_same(join(one, left), both))
        self.assertEqual(part(both, (names[0],)), of_numbers(1, 2))

    # The late difference lies behind a name that may lack, off the first way.
    def test_late_difference_off_the_way(self):
        names = [f"c{name}" for name in NAMES[:350]]
        rest = [(name, ONE, False) for name in names]
        kinds = []
        for value, late in ((ONE, ONE), (TWO, TWO)):
            with_it = of_record([("a", value, True), ("b", ONE, True)] + rest[:-1] + [(names[-1], late, False)])
            kinds.append(join(with_it, of_record([("a", value, True)] + rest)))
        both = join(kinds[0], kinds[1])
        left = less(both, kinds[0])
        for value in (1, 2):
            self.assertTrue(holds(both, record({"a": N[value], "b": N[1], names[-1]: N[value]})))
            self.assertIs(holds(both, record({"a": N[value], "b": N[1], names[-1]: N[3 - value]})), False)
            self.assertIs(holds(left, record({"a": N[value], "b": N[1]})), value == 2)
        self.assertTrue(are_same(left, kinds[1]))

    def test_any(self):
        shut = of_record([(name, ANY, False) for name in NAMES[:1500]])
        self.assertTrue(holds(shut, record({NAMES[7]: N[1]})))
        self.assertFalse(holds(shut, record({LAST: N[1]})))
        self.assertEqual(of_record([(name, ANY, False) for name in NAMES], True), of_sort("record"))
        self.assertEqual(of_record([(name, NOTHING, False) for name in NAMES]), of_record([]))


class Whole(unittest.TestCase):
    def test_expressions(self):
        text = "[" + ",".join(["1"] * 4000) + "] | [" + ",".join(["1"] * 3999 + ["2"]) + "]"
        kind = kind_of(read(text), NOTHING)
        self.assertTrue(holds(kind, items(*[N[1]] * 3999, N[2])))
        self.assertTrue(are_same(kind_of(read(shown(kind)), NOTHING), kind))

    def test_rows(self):
        ones = "[" + ",".join(["1"] * 2000) + "]"
        any_last = "[" + ",".join(["1"] * 1999 + ["any"]) + "]"
        rows = read_rows(f"a: {any_last}\nb: @a & {ones} else @a\nc: [2, ..] | {ones}\nc: @b")
        self.assertEqual(only(part(come_to(rows), ("c",))), items(*[N[1]] * 2000))
        self.assertEqual(only(part(settled(rows), ("b",))), items(*[N[1]] * 2000))
        self.assertGreater(len(turns(rows)), 2)
        desk = Desk()
        for line in (f"a: {any_last}", f"b: @a & {ones} else @a"):
            desk.tell(line)
        self.assertEqual(desk.told_at("b"), ("one", "[" + ", ".join(["1"] * 2000) + "]"))
        self.assertEqual(desk.is_sure("a", any_last), ("yes",))
        self.assertEqual(desk.is_sure("a", "!" + ones), ("no", "[" + ", ".join(["1"] * 2000) + "]"))
        desk.tell("b: @a & [" + ",".join(["1"] * 1999 + ["text"]) + "]")
        desk.tell(f"b: {ones}")
        self.assertEqual(desk.told_at("b")[0], "clash")


if __name__ == "__main__":
    unittest.main()

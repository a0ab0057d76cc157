import itertools
import random
import unittest

from meetvalue.errors import MeetError, Ring
from meetvalue.kinds import ANY, NOTHING
from meetvalue.looking import beyond, holds, part, placed
from meetvalue.making import of_numbers, of_record, of_sort, of_text
from meetvalue.reading import read_rows
from meetvalue.rings import ring
from meetvalue.turns import come_to, turn, turns
from slow import all_records, faults_of_kind, left_slowly, number, some_lines, turn_slowly

RECORDS = of_sort("record")
ONE, TWO = number(1), number(2)
RINGS = ["a.b: @a", "a: @b\nb.c: @a", "x: 1\na.b: 1 else @a.c | @a", "a: @b\nb: @c\nc.d: @a"]


def ring_of(lines):
    return ring(read_rows("\n".join(lines)))


class Turn(unittest.TestCase):
    def test_each(self):
        wide = of_record([("a", ONE, True)], True)
        for text, root, kind in [
            ("", RECORDS, RECORDS), ("", NOTHING, RECORDS), ("", wide, RECORDS), ("a: 1", RECORDS, wide), ("a: 1", NOTHING, wide),
            ("a.b: 1", RECORDS, placed(("a", "b"), ONE)), ("a: 1 else 2", RECORDS, placed(("a",), of_numbers(1, 2))),
            ("b: @a", wide, placed(("b",), ONE)), ("b: @a", RECORDS, placed(("b",), ANY)), ("b: @a", NOTHING, NOTHING),
            ("b: @c", of_record([]), NOTHING), ("a: 1\nb: 2", RECORDS, of_record([("a", ONE, True), ("b", TWO, True)], True)),
            ("a: 1\na: 2", RECORDS, NOTHING), ("a: 1..5\na: 3..9", RECORDS, placed(("a",), of_numbers(3, 5))), ("a: nothing", RECORDS, NOTHING),
            ("b: 2 else @a", wide, placed(("b",), of_numbers(1, 2))), ("a.b: 1\na: {b: 1}", RECORDS, placed(("a",), of_record([("b", ONE, True)]))),
            ("a.b: 1\na: 1", RECORDS, NOTHING),
        ]:
            with self.subTest(text=text, root=root):
                self.assertEqual(turn(read_rows(text), root), kind)

    def test_rings_are_not_refused(self):
        for text in RINGS:
            for root in (RECORDS, NOTHING, of_record([])):
                with self.subTest(text=text):
                    self.assertEqual(faults_of_kind(turn(read_rows(text), root)), [])
        self.assertEqual(turn(read_rows("a.b: @a"), placed(("a",), ONE)), placed(("a", "b"), ONE))
        self.assertEqual(turn(read_rows("a.b: @a"), RECORDS), placed(("a", "b"), ANY))

    # Turns of roots that are bounded as the records are which are gone through.
    def test_held_against_a_slow_look(self):
        chance = random.Random(31)
        records = all_records()
        for _ in range(80):
            root_rows = read_rows("\n".join(some_lines(chance, ring_of)))
            lines = some_lines(chance, ring_of)
            kind = turn(read_rows("\n".join(lines)), come_to(root_rows))
            fits = turn_slowly(read_rows("\n".join(lines)), left_slowly(root_rows), records)
            with self.subTest(lines=lines):
                for record in records:
                    self.assertIs(holds(kind, record), record in fits)


class Turns(unittest.TestCase):
    def test_first_and_last(self):
        self.assertEqual(turns([]), [RECORDS])
        self.assertEqual(come_to([]), RECORDS)
        one = placed(("a",), ONE)
        self.assertEqual(turns(read_rows("a: 1")), [RECORDS, one])
        self.assertEqual(come_to(read_rows("a: 1")), one)
        both = of_record([("a", ONE, True), ("b", ONE, True)], True)
        told = turns(read_rows("a: 1\nb: @a"))
        self.assertEqual((told[0], told[-1], len(told)), (RECORDS, both, 3))
        self.assertEqual(turns(read_rows("a: any")), [RECORDS, placed(("a",), ANY)])
        self.assertEqual(turns(read_rows("a: nothing")), [RECORDS, NOTHING])

    def test_places_by_paths_that_begin_with_one_another(self):
        for text, path, kind in [
            ("a: @b\nb.c: 1", ("a", "c"), ONE), ("a: @b.c\nb: {c: 1..2, ..}", ("a",), of_numbers(1, 2)), ("a: @b.c\nb: {c: 1}\nb.c: any", ("a",), ONE),
            ("a.x: @b\nb: 1 | 2\nb: !1", ("a", "x"), TWO), ("a: @b\nb.c: 1\nb.d: 2", ("a", "d"), TWO), ("a: @b.c.d\nb.c: {d: 1} | {d: 2}", ("a",), of_numbers(1, 2)),
            ("a: @b\nb: @c\nc: @d\nd: 1", ("a",), ONE), ("d: 1\nc: @d\nb: @c\na: @b", ("a",), ONE), ("a: @b\nb: 1..5\nb: 4..9", ("b",), of_numbers(4, 5)),
        ]:
            with self.subTest(text=text):
                self.assertEqual(part(come_to(read_rows(text)), path), kind)

    def test_leaning_on_itself_ends(self):
        for text, path, kind in [
            ("a: @a", ("a",), ANY), ("a: @a & 1..5", ("a",), of_numbers(1, 5)), ("a: @b\nb: @a & 1..5", ("a",), of_numbers(1, 5)),
            ("a: @a.b\na: {b: 1}", ("a",), NOTHING), ("a: @a.b | 1\na: 1..5", ("a",), ONE), ("a: @b\nb: @c\nc: @a\nb: 1", ("c",), ONE),
        ]:
            rows = read_rows(text)
            last = come_to(rows)
            with self.subTest(text=text):
                self.assertEqual(part(last, path), kind)
                self.assertEqual(turn(rows, last), last)

    def test_greatest(self):
        # Both may be all, so they are.
        self.assertEqual(come_to(read_rows("a: @b\nb: @a")), of_record([("a", ANY, True), ("b", ANY, True)], True))
        self.assertEqual(part(come_to(read_rows('a: @b & ("x" | 1)\nb: @a')), ("b",)), part(come_to(read_rows('a: "x" | 1')), ("a",)))
        self.assertEqual(part(come_to(read_rows('a: "x"\nb: @a')), ("b",)), of_text("x"))

    def test_each_turn_holds_what_the_next_holds(self):
        chance = random.Random(32)
        lengths = set()
        for _ in range(80):
            rows = read_rows("\n".join(some_lines(chance, ring_of, 6)))
            told = turns(rows)
            lengths.add(len(told))
            self.assertEqual(told[0], RECORDS)
            for one, other in zip(told, told[1:]):
                self.assertIsNone(beyond(other, one))
                self.assertNotEqual(one, other)
                self.assertEqual(turn(rows, one), other)
            self.assertEqual(turn(rows, told[-1]), told[-1])
            self.assertEqual(come_to(rows), told[-1])
            self.assertEqual(faults_of_kind(told[-1]), [])
        self.assertLessEqual({2, 3, 4}, lengths)

    # Rows gone through record by record.
    def test_held_against_a_slow_look(self):
        chance = random.Random(33)
        for _ in range(150):
            lines = some_lines(chance, ring_of)
            rows = read_rows("\n".join(lines))
            kind = come_to(rows)
            left = left_slowly(rows)
            with self.subTest(lines=lines):
                for record in all_records():
                    self.assertIs(holds(kind, record), record in left)
                    wide = ("record", record[1] + (("z", ("none",)),))
                    self.assertIs(holds(kind, wide), record in left)
                if not left:
                    self.assertEqual(kind, NOTHING)

    def test_order_and_saying_twice(self):
        for text in ["a: 1..5\nb: @a\na: 3..9\nb: !4", "a: @b\nb.c: 1 else 2\nb: {c: 2, ..}\na.d: 7", "a: @b & 1..5\nb: @a & 3..9\nc: @a | @b\na: !3"]:
            rows = read_rows(text)
            kind = come_to(rows)
            self.assertNotEqual(kind, NOTHING)
            for found in itertools.permutations(rows):
                self.assertEqual(come_to(list(found)), kind)
                self.assertEqual(come_to(list(found) + [found[0]]), kind)
                self.assertEqual(come_to([found[-1]] + list(found)), kind)

    def test_order_and_saying_twice_by_chance(self):
        chance = random.Random(34)
        for _ in range(60):
            rows = read_rows("\n".join(some_lines(chance, ring_of, 5)))
            kind = come_to(rows)
            mixed = rows + chance.choices(rows, k=chance.randrange(4))
            chance.shuffle(mixed)
            self.assertEqual(come_to(mixed), kind)

    def test_rings_are_refused(self):
        for text in RINGS:
            for asked in (turns, come_to):
                with self.subTest(text=text):
                    with self.assertRaises(MeetError) as caught:
                        asked(read_rows(text))
                    self.assertIs(type(caught.exception), Ring)

    def test_twenty_rows(self):
        names = "abcdefghijklmnopqrst"
        lines = [f"{one}: @{other} & ({k}.. | text)" for k, (one, other) in enumerate(zip(names, names[1:]))] + ["t: 1..30 | \"x\""]
        kind = come_to(read_rows("\n".join(lines)))
        self.assertEqual(part(kind, ("a",)), part(come_to(read_rows('a: 18..30 | "x"')), ("a",)))
        lines = [f"{name}.{name}.{name}.{name}: @{other}" for name, other in zip("abcdefghi", "bcdefghij")] + ["j: 1"]
        deep = come_to(read_rows("\n".join(lines)))
        self.assertEqual(part(deep, tuple("aaaabbbcccdddeeefffggghhhiii")), ONE)

    def test_lists_are_new_and_rows_stay(self):
        rows = read_rows("a: 1\nb: @a")
        told = turns(rows)
        wanted = list(told)
        told.clear()
        self.assertEqual(turns(rows), wanted)
        self.assertEqual(rows, read_rows("a: 1\nb: @a"))
        kind = come_to(rows)
        rows.append(rows[0])
        self.assertEqual(wanted[-1], kind)


if __name__ == "__main__":
    unittest.main()

import random
import unittest

from meetvalue.choices import chosen, cut, levels, settled
from meetvalue.errors import MeetError, Ring
from meetvalue.kinds import NOTHING
from meetvalue.looking import holds, part
from meetvalue.making import of_numbers, of_sort
from meetvalue.reading import read_rows
from meetvalue.rings import ring
from meetvalue.turns import come_to
from slow import all_records, left_slowly, number, some_lines

A, B, C = ("a",), ("b",), ("c",)
ONE, TWO, THREE = number(1), number(2), number(3)
RINGS = ["a.b: @a", "a: 1\nb: @c\nc.d: 1 else @b", "a: nothing\nb.c: @b"]


def ring_of(lines):
    return ring(read_rows("\n".join(lines)))


class Levels(unittest.TestCase):
    def test_each(self):
        for text, told in [
            ("", []), ("a: 1", [(A, 1)]), ("a: 1 else 2", [(A, 2)]), ("b: 1 else 2 else 3\na: 1", [(A, 1), (B, 3)]),
            ("a: 1\na: 1 else 2 else 3\na: 1 else 2", [(A, 3)]), ("a.b: 1 else 2\na: 1\nab: 1\na.b: 1", [(A, 1), (("a", "b"), 2), (("ab",), 1)]),
            ("c: 1\nb: 1\na: 1\nb: 1 else 2", [(A, 1), (B, 2), (C, 1)]), ("a: @b else @c", [(A, 2)]), ("a.b: @a", [(("a", "b"), 1)]),
        ]:
            with self.subTest(text=text):
                self.assertEqual(levels(read_rows(text)), told)
                self.assertTrue(all(isinstance(pair, tuple) for pair in levels(read_rows(text))))


class Cut(unittest.TestCase):
    def test_each(self):
        text = "a: 1 else 2 else 3\nb: 1 else 2\na: 7\na.b: 1 else 2"
        for some, told in [
            ([], text), ([(A, 0)], "a: 1\nb: 1 else 2\na: 7\na.b: 1 else 2"), ([(A, 1)], "a: 1 else 2\nb: 1 else 2\na: 7\na.b: 1 else 2"),
            ([(A, 2)], text), ([(A, 3)], text), ([(A, 99)], text), ([(C, 0)], text), ([(("a", "b", "c"), 0)], text), ([(B, 0), (A, 0)], "a: 1\nb: 1\na: 7\na.b: 1 else 2"),
            ([(("a", "b"), 0)], "a: 1 else 2 else 3\nb: 1 else 2\na: 7\na.b: 1"), ([(B, 0), (C, 1)], "a: 1 else 2 else 3\nb: 1\na: 7\na.b: 1 else 2"),
        ]:
            rows = read_rows(text)
            with self.subTest(some=some):
                self.assertEqual(cut(rows, some), read_rows(told))
                self.assertEqual(rows, read_rows(text))

    def test_told_rows_are_new(self):
        rows = read_rows("a: 1 else 2\nb: 1")
        for some in ([], [(A, 0)], [(A, 9)]):
            kept = list(some)
            told = cut(rows, some)
            wanted = list(told)
            self.assertIsNot(told, rows)
            rows.append(("x",))
            some.append((B, 0))
            self.assertEqual(told, wanted)
            rows.pop()
            self.assertEqual(cut(rows, kept), wanted)
            told.clear()
            self.assertEqual(cut(rows, kept), wanted)
        self.assertEqual(rows, read_rows("a: 1 else 2\nb: 1"))


# Slowly, by the words of the document; what is left is found record by record.
def chosen_slowly(rows):
    if not left_slowly(rows):
        return None
    most = {}
    for path, trees in rows:
        most[path] = max(most.get(path, 0), len(trees))
    standing = {path: count - 1 for path, count in most.items()}
    for path in sorted(standing):
        for level in range(most[path]):
            standing[path] = level
            if left_slowly([(other, trees[: standing[other] + 1]) for other, trees in rows]):
                break
    return sorted(standing.items())


class Chosen(unittest.TestCase):
    def test_each(self):
        for text, told in [
            ("", []), ("a: 1", [(A, 0)]), ("a: 1 else 2", [(A, 0)]), ("a: 1 else 2\na: 2", [(A, 1)]), ("a: 1 else 2 else 3\na: 3..", [(A, 2)]),
            ("a: nothing else 2", [(A, 1)]), ("a: 1\na: 2", None), ("a: 1 else 2\na: 3", None), ("a: nothing", None),
            # Each alone would do, but not together: the first by its path has its first choice.
            ("b: 1 else 2\na: 1 else 2\nc: @a & 2 | @b & 2", [(A, 0), (B, 1), (C, 0)]), ("b: 1 else 2\na: 1 else 2\nc: @a & @b", [(A, 0), (B, 0), (C, 0)]),
            ("z: 1 else 2\nb: 1 else 2\nc: @z & 2 | @b & 2", [(B, 0), (C, 0), (("z",), 1)]), ("a: 1 else 2\nb: @a & !1 else 5", [(A, 0), (B, 1)]), ("b: 1 else 2\nc: @b & !1 else 7", [(B, 0), (C, 1)]),
            ("a: @b & !1\nb: 1 else 2", [(A, 0), (B, 1)]), ("a: @b & !1 else 9\nb: 1 else 2", [(A, 0), (B, 1)]), ("a: 1 else 2\na: 2 else 1", [(A, 1)]),
            ("a: 1 else 2\na.b: 1", None), ("a: 1 else {b: 1}\na.b: 1 else 2", [(A, 1), (("a", "b"), 0)]), ("a: 1 else 1 else 2\na: 2", [(A, 2)]),
            ("ab: 1 else 2\na.b: 1 else 2\na: any", [(A, 0), (("a", "b"), 0), (("ab",), 0)]),
        ]:
            with self.subTest(text=text):
                self.assertEqual(chosen(read_rows(text)), told)

    def test_settled(self):
        for text, path, kind in [
            ("a: 1 else 2", A, ONE), ("a: 1 else 2\na: 2", A, TWO), ("a: 1 else 2 else 3\na: 2..", A, TWO), ("a: 1 else 2\na: 3", A, NOTHING),
            ("a: 1 else 2\nb: @a & !1 else 5", B, number(5)), ("a: @b & !1 else 9\nb: 1 else 2", A, TWO), ("a: @b & !1 else 9\nb: 1 else 2", B, of_numbers(1, 2)),
            ("a: 1..5 else 3..9\na: !2", A, part(come_to(read_rows("a: 1 | 3..5")), A)), ("a: 2 else 1\nb: @a else 7", B, TWO),
        ]:
            with self.subTest(text=text):
                self.assertEqual(part(settled(read_rows(text)), path), kind)
        self.assertEqual(settled([]), of_sort("record"))
        self.assertEqual(settled(read_rows("a: 1\na: 2")), NOTHING)

    def test_settled_is_what_the_cut_rows_come_to(self):
        chance = random.Random(41)
        nothing = 0
        for _ in range(60):
            rows = read_rows("\n".join(some_lines(chance, ring_of, 5)))
            told = chosen(rows)
            if told is None:
                nothing += 1
                self.assertEqual(settled(rows), NOTHING)
                self.assertEqual(come_to(rows), NOTHING)
            else:
                self.assertEqual(settled(rows), come_to(cut(rows, told)))
                self.assertNotEqual(settled(rows), NOTHING)
        self.assertGreater(nothing, 5)
        self.assertLess(nothing, 55)

    def test_held_against_a_slow_look(self):
        chance = random.Random(42)
        seen = set()
        for _ in range(70):
            lines = some_lines(chance, ring_of, 5)
            rows = read_rows("\n".join(lines))
            told = chosen(rows)
            with self.subTest(lines=lines):
                self.assertEqual(told, chosen_slowly(rows))
                if told is not None:
                    self.assertIsInstance(told, list)
                    left = left_slowly(cut(rows, told))
                    kind = settled(rows)
                    for record in all_records():
                        self.assertIs(holds(kind, record), record in left)
            seen.update([None] if told is None else [level for _, level in told])
        self.assertLessEqual({None, 0, 1, 2}, seen)

    def test_order_and_saying_twice(self):
        chance = random.Random(43)
        for _ in range(40):
            rows = read_rows("\n".join(some_lines(chance, ring_of, 5)))
            mixed = rows + chance.choices(rows, k=2)
            chance.shuffle(mixed)
            self.assertEqual(chosen(mixed), chosen(rows))
            self.assertEqual(settled(mixed), settled(rows))

    def test_rings_are_refused(self):
        for text in RINGS:
            for asked in (chosen, settled):
                with self.subTest(text=text):
                    with self.assertRaises(MeetError) as caught:
                        asked(read_rows(text))
                    self.assertIs(type(caught.exception), Ring)

    def test_lists_are_new_and_rows_stay(self):
        text = "a: 1 else 2\nb: @a & 2 else 3"
        rows = read_rows(text)
        for asked in (levels, chosen):
            told = asked(rows)
            wanted = list(told)
            told.clear()
            self.assertEqual(asked(rows), wanted)
        self.assertEqual(rows, read_rows(text))


if __name__ == "__main__":
    unittest.main()

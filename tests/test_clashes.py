import random
import unittest

from meetvalue.clashes import clash
from meetvalue.errors import MeetError, Ring
from meetvalue.kinds import NOTHING
from meetvalue.reading import read_rows
from meetvalue.rings import ring
from meetvalue.turns import come_to
from slow import left_slowly, some_lines


def ring_of(lines):
    return ring(read_rows("\n".join(lines)))


class Clash(unittest.TestCase):
    # A clash that is told is gone through.
    def hold(self, rows):
        told = clash(rows)
        if told is None:
            self.assertNotEqual(come_to(rows), NOTHING)
            return None
        self.assertIsInstance(told, list)
        self.assertEqual(told, sorted(set(told)))
        self.assertTrue(all(number in range(len(rows)) for number in told))
        self.assertEqual(come_to([rows[number] for number in told]), NOTHING)
        for spared in told:
            self.assertNotEqual(come_to([rows[number] for number in told if number != spared]), NOTHING)
        return told

    def test_each(self):
        for text, told in [
            ("", None), ("a: 1", None), ("a: nothing", [0]), ("x: 1\na: 1 & 2", [1]), ("a: 1\na: 2", [0, 1]), ("a: 1\nb: 1\na: 2\nc: 3", [0, 2]),
            ("a: 1..5\na: 4..9\na: 6..", [0, 2]), ("a: 1 | 2\na: 2 | 3\na: 1 | 3", [0, 1, 2]), ("a: 1\nb: @a\nb: 2", [0, 1, 2]), ("a.b: 1\na: 1", [0, 1]),
            ("x: @a.b\na: {c: 1}\ny: 2", [0, 1]), ("a: 1 else 2\na: 3", [0, 1]), ("a: 1 else 2\na: 2", None), ("b: @a\na: 1\nb: 2\nb: any", [0, 1, 2]),
            ("a: 1\na: any\na: 2 else 3 else 4", [0, 2]),
        ]:
            with self.subTest(text=text):
                self.assertEqual(self.hold(read_rows(text)), told)

    def test_of_several_any(self):
        for text in ["a: 1\na: 2\na: 3", "a: nothing\nb: nothing", "a: 1\na: 1\na: 2", "a: 1\na: 2\nb: 1\nb: 2", "a: nothing\na: nothing\na: nothing"]:
            with self.subTest(text=text):
                self.assertIsNotNone(self.hold(read_rows(text)))

    def test_rows_said_twice(self):
        rows = read_rows("a: 1\nb: @a\nb: 2")
        for said in ([0, 0, 1, 2], [2, 1, 0, 1, 2], [1, 1, 1, 0, 2, 2]):
            told = self.hold([rows[number] for number in said])
            self.assertEqual(sorted(said[number] for number in told), [0, 1, 2])

    def test_by_chance(self):
        chance = random.Random(51)
        sizes = set()
        for _ in range(80):
            lines = some_lines(chance, ring_of, 6)
            rows = read_rows("\n".join(lines))
            with self.subTest(lines=lines):
                told = self.hold(rows)
                self.assertIs(told is None, bool(left_slowly(rows)))
                sizes.add(None if told is None else len(told))
        self.assertLessEqual({None, 2, 3}, sizes)

    def test_rings_are_refused(self):
        for text in ["a.b: @a", "x: nothing\na: @b\nb.c: @a", "a: 1\na: 2\nb.c: 1 else @b"]:
            with self.subTest(text=text):
                with self.assertRaises(MeetError) as caught:
                    clash(read_rows(text))
                self.assertIs(type(caught.exception), Ring)

    def test_twenty_rows(self):
        names = "abcdefghijklmnopqrs"
        rows = read_rows("\n".join([f"{one}: @{other}" for one, other in zip(names, names[1:])] + ["s: 1", "a: 2"]))
        self.assertEqual(len(rows), 20)
        self.assertEqual(self.hold(rows), list(range(20)))

    def test_lists_are_new_and_rows_stay(self):
        rows = read_rows("a: 1\na: 2")
        told = clash(rows)
        told.append(7)
        self.assertEqual(clash(rows), [0, 1])
        self.assertEqual(rows, read_rows("a: 1\na: 2"))


if __name__ == "__main__":
    unittest.main()

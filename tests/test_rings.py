import itertools
import random
import unittest

from meetvalue.reading import read_row, read_rows
from meetvalue.rings import leans, leans_into, ring


def lean(path, place):
    return path[: len(place)] == place or place[: len(path)] == path


def into(path, place):
    return len(place) < len(path) and path[: len(place)] == place


# Slowly: all rings of numbers, each once.
def rings(count):
    for size in range(1, count + 1):
        for chosen in itertools.permutations(range(count), size):
            if chosen[0] == min(chosen):
                yield chosen


def steps(numbers):
    return list(zip(numbers, numbers[1:] + numbers[:1]))


class Leaning(unittest.TestCase):
    def test_each(self):
        for line, other, leaning, leaning_into in [
            ("x: @a", "a: 1", True, False), ("x: @a", "a.b: 1", True, True), ("x: @a.b", "a: 1", True, False), ("x: @a", "b: 1", False, False),
            ("x: @a.b", "a.c: 1", False, False), ("x: @a", "ab: 1", False, False), ("x: @ab", "a: 1", False, False), ("x: 1", "a: 1", False, False),
            ("x: @a.b", "a.b.c.d: 1", True, True), ("x: @a.b.c.d", "a.b: 1", True, False), ("x: @b.a", "a.b: 1", False, False),
            ("x: @x", "x: 1", True, False), ("a: 1", "x: @a", False, False), ("x: 1 else @a", "a.b: 1", True, True),
            ("x: 1 else 2 | @b & (3 | @a)", "a.b: 1", True, True), ("x: @a else @a.b.c", "a.b: 1", True, True), ("x: @a.b | @a.b.c", "a.b: 1", True, False),
            ("x: @b | @a.b", "a: 1", True, False), ('x: "@a"', "a: 1", False, False), ("x: {a: 1}", "a: 1", False, False), ("x.y: 1", "x: @x", False, False),
        ]:
            with self.subTest(line=line, other=other):
                self.assertIs(leans(read_row(line), read_row(other)), leaning)
                self.assertIs(leans_into(read_row(line), read_row(other)), leaning_into)

    def test_on_itself(self):
        for line, leaning, leaning_into in [
            ("a: @a", True, False), ("a.b: @a", True, True), ("a: @a.b", True, False), ("a: 1", False, False), ("a.b: @a.c", False, False),
            ("a.b: @a.b", True, False), ("a.b.c: 1 else @a & 1", True, True),
        ]:
            with self.subTest(line=line):
                self.assertIs(leans(read_row(line), read_row(line)), leaning)
                self.assertIs(leans_into(read_row(line), read_row(line)), leaning_into)


class Ring(unittest.TestCase):
    # A ring that is told is gone through.
    def hold(self, rows):
        told = ring(rows)
        if told is not None:
            self.assertIsInstance(told, list)
            self.assertGreater(len(told), 0)
            self.assertEqual(len(set(told)), len(told))
            for number in told:
                self.assertIn(number, range(len(rows)))
                self.assertIsInstance(number, int)
            self.assertTrue(all(leans(rows[one], rows[other]) for one, other in steps(told)))
            self.assertTrue(any(leans_into(rows[one], rows[other]) for one, other in steps(told)))
        return told

    def test_each(self):
        for text, told in [
            ("", None), ("a: 1", None), ("a: @a", None), ("a: @a.b", None), ("a.b: @a", [0]), ("a: @b\nb: @a", None), ("a: @b\nb.c: @a", [0, 1]),
            ("a.x: @b\nb.y: @a", [0, 1]), ("a: @b.c\nb: @a", None), ("a: @b\nb: @c\nc.d: @a", [0, 1, 2]), ("a: @b\nb: @c\nc.d: @e", None),
            ("x: 1\na.b: @a", [1]), ("x: @a\na.b: 1", None), ("x: @a\na.b: @c", None), ("x: @a\na.b: @x", [0, 1]), ("x: @a\na.b: @x.y", [0, 1]),
            ("a: 1 else @b\nb.c: 2 else @a", [0, 1]), ("a: @a & @b\nb: @b | @a\nc: @a", None), ("a.b: @a.c\na.c: @a.b", None),
            ("a.b: @a.c\na.c.d: @a.b", [0, 1]), ("a.b: 1\na: @c\nc: @a", None), ("a.b: @c\nc: @a", [0, 1]),
        ]:
            with self.subTest(text=text):
                found = self.hold(read_rows(text))
                self.assertEqual(found if found is None else sorted(found), told)

    def test_held_against_all_rings(self):
        chance = random.Random(21)
        paths = ["a", "b", "a.a", "a.b", "b.a", "a.a.b", "c"]
        seen = set()
        for turn in range(1500):
            lines = []
            for _ in range(chance.randrange(1, 6)):
                places = ["@" + chance.choice(paths) for _ in range(chance.choice((0, 1, 1, 1, 2)))]
                lines.append(chance.choice(paths) + ": " + chance.choice((" else ", " | ", " & ")).join(["1"] + places))
            rows = read_rows("\n".join(lines))
            builds = any(
                all(leans(rows[one], rows[other]) for one, other in steps(found))
                and any(leans_into(rows[one], rows[other]) for one, other in steps(found))
                for found in rings(len(rows))
            )
            with self.subTest(lines=lines):
                told = self.hold(rows)
                self.assertIs(told is not None, builds)
                seen.add(None if told is None else len(told))
        self.assertLessEqual({None, 1, 2, 3}, seen)

    def test_leaning_by_the_words_of_the_document(self):
        chance = random.Random(22)
        names = ("a", "b", "ab")
        for turn in range(800):
            path = tuple(chance.choice(names) for _ in range(chance.randrange(1, 5)))
            places = [tuple(chance.choice(names) for _ in range(chance.randrange(1, 5))) for _ in range(chance.randrange(3))]
            row = read_row("x: " + " | ".join(["1"] + ["@" + ".".join(place) for place in places]))
            other = (path, (("word", "any"),))
            self.assertIs(leans(row, other), any(lean(path, place) for place in places))
            self.assertIs(leans_into(row, other), any(into(path, place) for place in places))

    def test_twenty_rows(self):
        lines = [f"{'abcdefghijklmnopqrst'[k]}: @{'abcdefghijklmnopqrst'[(k + 1) % 20]}" for k in range(20)]
        self.assertIsNone(ring(read_rows("\n".join(lines))))
        lines[7] = "h.x: @i"
        self.assertEqual(len(self.hold(read_rows("\n".join(lines)))), 20)
        self.assertIsNone(ring(read_rows("\n".join(["a: @a & @b & @c"] * 20))))

    def test_told_lists_are_new_and_rows_stay(self):
        rows = read_rows("a: @b\nb.c: @a\nx: 1")
        told = ring(rows)
        wanted = list(told)
        told.append(9)
        self.assertEqual(ring(rows), wanted)
        self.assertEqual(rows, read_rows("a: @b\nb.c: @a\nx: 1"))


if __name__ == "__main__":
    unittest.main()

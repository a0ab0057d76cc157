import random
import unittest

from meetvalue.choices import settled
from meetvalue.clashes import clash
from meetvalue.desk import Desk
from meetvalue.errors import MeetError, NoRow, NoText, Ring
from meetvalue.kinds import NOTHING
from meetvalue.looking import holds, only, part
from meetvalue.meaning import kind_of
from meetvalue.reading import read, read_path, read_rows
from meetvalue.rings import ring
from meetvalue.showing import shown_thing
from meetvalue.turns import come_to
from slow import some_lines

NO_TEXTS = [None, 1, True, b"a: 1", ["a"], ("a",), 1.5]


def desk_with(*lines):
    desk = Desk()
    for line in lines:
        desk.tell(line)
    return desk


def ring_of(lines):
    return ring(read_rows("\n".join(lines)))


class Held(unittest.TestCase):
    def refused(self, error, asked, *handed):
        with self.assertRaises(MeetError) as caught:
            asked(*handed)
        self.assertIs(type(caught.exception), error)


class Rows(Held):
    def test_told_and_dropped(self):
        desk = Desk()
        self.assertEqual(desk.rows(), [])
        self.assertEqual([desk.tell(line) for line in ("a: 1", " b :  2 ", "a: 1", "c: @a else 3")], [0, 1, 2, 3])
        self.assertEqual(desk.rows(), ["a: 1", " b :  2 ", "a: 1", "c: @a else 3"])
        self.assertIsNone(desk.drop(1))
        self.assertEqual(desk.rows(), ["a: 1", "a: 1", "c: @a else 3"])
        self.assertEqual(desk.told_at("b"), ("kind", "any"))
        self.assertEqual(desk.tell("d: 4"), 3)
        desk.drop(3)
        desk.drop(0)
        self.assertEqual(desk.rows(), ["a: 1", "c: @a else 3"])
        self.assertEqual(desk.told_at("c"), ("one", "1"))
        desk.drop(0)
        desk.drop(0)
        self.assertEqual(desk.rows(), [])
        self.assertEqual(desk.tell("a: 2"), 0)
        self.assertEqual(desk.told_at("a"), ("one", "2"))

    def test_no_row(self):
        desk = Desk()
        for number in (-1, 0, 1):
            self.refused(NoRow, desk.drop, number)
        desk.tell("a: 1")
        desk.tell("b: 2")
        for number in (-1, -2, -3, 2, 3, 100, -(10 ** 60), 10 ** 60):
            self.refused(NoRow, desk.drop, number)
            self.assertEqual(desk.rows(), ["a: 1", "b: 2"])
        desk.drop(1)
        self.refused(NoRow, desk.drop, 1)
        self.assertEqual((desk.told_at("a"), desk.told_at("b")), (("one", "1"), ("kind", "any")))

    def test_no_text(self):
        desk = desk_with("a: 1")
        for line in ["", "  ", "a", "a:", ": 1", "a: 1 else", "a: 1\n", "a: 1\nb: 2", "a: !@a", "a: foo", "a.: 1"] + NO_TEXTS:
            self.refused(NoText, desk.tell, line)
            self.assertEqual(desk.rows(), ["a: 1"])
        self.assertEqual(desk.tell("b: 1"), 1)

    def test_ring(self):
        desk = desk_with("a: @b", "x: 1")
        for line in ("b.c: @a", "a.b: @a", "b.c: 1 else @a.x"):
            self.refused(Ring, desk.tell, line)
            self.assertEqual(desk.rows(), ["a: @b", "x: 1"])
            self.assertEqual(desk.told_at("x"), ("one", "1"))
        self.assertEqual(desk.tell("b: @a"), 2)
        desk.drop(0)
        self.assertEqual(desk.tell("b.c: @x"), 2)
        self.refused(Ring, desk.tell, "x: @b.q & @b")

    def test_no_text_ahead_of_ring(self):
        desk = desk_with("a: @b")
        self.refused(NoText, desk.tell, "b.c: @a else")
        self.refused(NoText, desk.tell, "b.c: @a 1")
        self.refused(Ring, desk.tell, "b.c: @a")

    # A ring among what would be kept alone counts.
    def test_dropped_rows_close_no_ring(self):
        desk = desk_with("a: @b")
        desk.drop(0)
        self.assertEqual(desk.tell("b.c: @a"), 0)

    def test_lists_are_new(self):
        desk = desk_with("a: 1", "b: 2")
        told = desk.rows()
        told.append("c: 3")
        told[0] = "a: 9"
        self.assertEqual(desk.rows(), ["a: 1", "b: 2"])
        self.assertEqual(desk.told_at("a"), ("one", "1"))
        before = desk.rows()
        desk.tell("c: 3")
        desk.drop(0)
        self.assertEqual(before, ["a: 1", "b: 2"])
        clashing = desk_with("a: 1", "a: 2")
        clashing.told_at("a")[1].append(5)
        self.assertEqual(clashing.told_at("a"), ("clash", [0, 1]))

    def test_desks_are_apart(self):
        one, other = desk_with("a: 1"), Desk()
        self.assertEqual(other.rows(), [])
        other.tell("a: 2")
        self.assertEqual((one.told_at("a"), other.told_at("a")), (("one", "1"), ("one", "2")))


class ToldAt(Held):
    def test_one(self):
        desk = desk_with('a: 1 | 2', "a: !1", 'b: {x: [1, "y"]}', "c: none else yes", "d: @c | @a", "d: @a", "e.f: @b")
        for path, text in [
            ("a", "2"), ("b", '{x: [1, "y"]}'), ("b.x", '[1, "y"]'), ("c", "none"), ("d", "2"), ("e.f", '{x: [1, "y"]}'), (" e . f . x ", '[1, "y"]'),
        ]:
            self.assertEqual(desk.told_at(path), ("one", text))

    def test_kind(self):
        desk = desk_with("a: 1..5", "b: {x?: 1, ..}", "c: 1 | \"a\"", "d: @a & 2..9")
        for path in ("a", "b", "b.x.y", "b.x", "b.z", "c", "d", "q", "q.r"):
            told = desk.told_at(path)
            kind = part(settled(read_rows("\n".join(desk.rows()))), read_path(path))
            if only(kind) is None:
                self.assertEqual(told[0], "kind")
                self.assertEqual(kind_of(read(told[1]), NOTHING), kind)
            else:
                self.assertEqual(told, ("one", shown_thing(only(kind))))
        self.assertEqual(desk.told_at("b.x"), ("one", "1"))

    def test_a_path_that_no_record_has(self):
        desk = desk_with("a: 1", "b: {x: 1}", "c: {}")
        for path in ("a.b", "b.y", "b.x.z", "c.x", "a.b.c.d"):
            self.assertEqual(desk.told_at(path), ("kind", "nothing"))

    def test_clash(self):
        desk = desk_with("x: 1", "a: 1", "y: 2", "a: 2")
        for path in ("a", "x", "q.r"):
            self.assertEqual(desk.told_at(path), ("clash", [1, 3]))
        desk.drop(0)
        self.assertEqual(desk.told_at("a"), ("clash", [0, 2]))
        desk.drop(2)
        self.assertEqual(desk.told_at("a"), ("one", "1"))
        self.assertEqual(desk_with("a: nothing").told_at("a"), ("clash", [0]))

    # First choices that won't do together are no clash.
    def test_choices(self):
        desk = desk_with("a: 1 else 2", "a: 2 else 1")
        self.assertEqual(desk.told_at("a"), ("kind", "1..2"))
        self.assertEqual(desk_with("a: 1 else 2", "a: 2").told_at("a"), ("one", "2"))
        self.assertEqual(desk_with("a: 1 else 2").told_at("a"), ("one", "1"))

    def test_no_rows(self):
        self.assertEqual(Desk().told_at("a"), ("kind", "any"))

    def test_no_text(self):
        for desk in (Desk(), desk_with("a: 1"), desk_with("a: 1", "a: 2")):
            for path in ["", " ", "a.", "a b", "@a", "a: 1", "1", "a\n"] + NO_TEXTS:
                self.refused(NoText, desk.told_at, path)

    def test_by_chance(self):
        chance = random.Random(61)
        seen = set()
        for _ in range(40):
            lines = some_lines(chance, ring_of, 5)
            rows = read_rows("\n".join(lines))
            desk = desk_with(*lines)
            for path in ("a", "b.x", "c"):
                told = desk.told_at(path)
                kind = part(settled(rows), read_path(path))
                seen.add(told[0])
                with self.subTest(lines=lines, path=path):
                    if come_to(rows) == NOTHING:
                        self.assertEqual(told, ("clash", clash(rows)))
                    elif only(kind) is not None:
                        self.assertEqual(told, ("one", shown_thing(only(kind))))
                    else:
                        self.assertEqual(told[0], "kind")
                        self.assertEqual(kind_of(read(told[1]), NOTHING), kind)
        self.assertEqual(seen, {"one", "kind", "clash"})


class IsSure(Held):
    def test_yes(self):
        desk = desk_with("a: 1..5", "b: {x: 1}", "c: 1 else 7")
        for path, text in [
            ("a", "1..5"), ("a", "number"), ("a", "any"), ("a", "1..2 | 3..9"), ("b", "{x: number}"), ("b.x", "1"), ("a.b", "nothing"), ("b.y", "1"),
            ("b.y", "nothing"), ("c", "1"), ("q", "any"), (" b . x ", " 1 "),
        ]:
            with self.subTest(path=path, text=text):
                self.assertEqual(desk.is_sure(path, text), ("yes",))

    def test_no(self):
        desk = desk_with("a: 1..5", "b: {x: 1}", "c: 1 else 7")
        for path, text, told in [("a", "1..4", "5"), ("a", "2..", "1"), ("a", "!3", "3"), ("b", "{x: 2}", "{x: 1}"), ("b.x", "text", "1"), ("c", "7", "1")]:
            with self.subTest(path=path, text=text):
                self.assertEqual(desk.is_sure(path, text), ("no", told))
        for path, text in [("a", "nothing"), ("a", "text"), ("q", "number"), ("q", "nothing"), ("a", "2 | 4"), ("b", "nothing")]:
            told = desk.is_sure(path, text)
            kind = kind_of(read(told[1]), NOTHING)
            with self.subTest(path=path, text=text):
                self.assertEqual(told[0], "no")
                self.assertTrue(holds(part(settled(read_rows("\n".join(desk.rows()))), read_path(path)), only(kind)))
                self.assertFalse(holds(kind_of(read(text), NOTHING), only(kind)))

    def test_nothing_settled(self):
        desk = desk_with("a: 1", "a: 2")
        for text in ("nothing", "1", "any"):
            self.assertEqual(desk.is_sure("a", text), ("yes",))
            self.assertEqual(desk.is_sure("q.r", text), ("yes",))

    def test_no_rows(self):
        self.assertEqual(Desk().is_sure("a", "any"), ("yes",))
        self.assertEqual(Desk().is_sure("a", "number")[0], "no")

    def test_no_text(self):
        for desk in (Desk(), desk_with("a: 1"), desk_with("a: 1", "a: 2")):
            for path in ["", "a.", "@a"] + NO_TEXTS:
                self.refused(NoText, desk.is_sure, path, "1")
                self.refused(NoText, desk.is_sure, path, "@a")
            for text in ["", "  ", "foo", "1 2", "a: 1", "1 else 2", "@a", "1 | @a", "any & (1 | @q.r)", "!@a", "[@a]"] + NO_TEXTS:
                self.refused(NoText, desk.is_sure, "a", text)

    def test_asking_changes_nothing(self):
        desk = desk_with("a: 1..5", "b: @a")
        for _ in range(2):
            self.assertEqual(desk.is_sure("a", "1..4"), ("no", "5"))
            self.assertEqual(desk.told_at("b"), ("kind", "1..5"))
            self.refused(NoText, desk.is_sure, "a", "@b")
            self.assertEqual(desk.rows(), ["a: 1..5", "b: @a"])


if __name__ == "__main__":
    unittest.main()

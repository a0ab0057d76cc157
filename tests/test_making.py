import inspect
import itertools
import unittest

from meetvalue.kinds import ANY, NOTHING, join, less, meet
from meetvalue.making import just, of_list, of_numbers, of_record, of_sort, of_text, of_truth
from slow import PLAIN_ANY, PLAIN_NOTHING, SHUT, WIDE, faults_of_kind, is_in

NO, ALL, END = ("no",), ("all",), ("first", True, ())
EMPTY = ("rest", True, False)
SORTS = ("none", "truth", "number", "text", "list", "record")
ONE = (False, (), (((1,), (1,)),), ("only", ()), NO, SHUT)
TWO = (False, (), (((2,), (2,)),), ("only", ()), NO, SHUT)
NONE = (True, (), (), ("only", ()), NO, SHUT)

THINGS = [
    ("none",), ("truth", True), ("truth", False), ("number", 0), ("number", 1), ("number", 2), ("number", -10 ** 59),
    ("text", ""), ("text", "a"), ("text", "ab"), ("text", "none"), ("list", ()), ("list", (("none",),)),
    ("list", (("number", 1),)), ("list", (("number", 1), ("number", 2))), ("list", (("number", 2), ("number", 1))),
    ("list", (("list", ()),)), ("list", (("number", 1),) * 3), ("record", ()), ("record", (("a", ("number", 1)),)),
    ("record", (("a", ("number", 2)),)), ("record", (("b", ("number", 1)),)), ("record", (("ab", ("number", 1)),)),
    ("record", (("a", ("number", 1)), ("ab", ("number", 2)))), ("record", (("a", ("none",)), ("c", ("list", ())))),
    ("record", (("a", ("record", (("a", ("number", 1)),))),)), ("list", (("record", (("x", ("text", "")),)),)),
]


def with_part(k, found):
    return PLAIN_NOTHING[:k] + (found,) + PLAIN_NOTHING[k + 1:]


class Plain(unittest.TestCase):
    def test_sorts(self):
        for k, word in enumerate(SORTS):
            with self.subTest(word=word):
                self.assertEqual(of_sort(word), with_part(k, PLAIN_ANY[k]))
                for thing in THINGS:
                    self.assertIs(is_in(of_sort(word), thing), thing[0] == word)

    def test_truths(self):
        self.assertEqual(of_truth(True), with_part(1, (True,)))
        self.assertEqual(of_truth(False), with_part(1, (False,)))

    def test_numbers(self):
        most = 10 ** 60 - 1
        for low, high, spans in [
            (1, 1, (((1,), (1,)),)), (1, 9, (((1,), (9,)),)), (-5, 5, (((-5,), (5,)),)), (0, 0, (((0,), (0,)),)),
            (None, 9, (((), (9,)),)), (1, None, (((1,), ()),)), (None, None, (((), ()),)), (None, 0, (((), (0,)),)),
            (-most, most, (((-most,), (most,)),)), (9, 1, ()), (1, 0, ()), (most, -most, ()),
        ]:
            with self.subTest(low=low, high=high):
                self.assertEqual(of_numbers(low, high), with_part(2, spans))
        self.assertEqual(of_numbers(9, 1), NOTHING)
        self.assertEqual(of_numbers(None, None), of_sort("number"))

    def test_texts(self):
        for text in ("", "a", "but", "x y", "~" * 400, "{}"):
            self.assertEqual(of_text(text), with_part(3, ("only", (text,))))


class Lists(unittest.TestCase):
    def test_without_items(self):
        self.assertEqual(of_list([]), with_part(4, END))
        self.assertEqual(of_list([], False), with_part(4, END))
        self.assertEqual(of_list([], True), with_part(4, ALL))
        self.assertEqual(of_list([], more=True), of_sort("list"))

    def test_with_items(self):
        self.assertEqual(of_list([ONE]), with_part(4, ("first", False, ((ONE, END),))))
        self.assertEqual(of_list([ONE], True), with_part(4, ("first", False, ((ONE, ALL),))))
        self.assertEqual(of_list([ANY], True), with_part(4, ("first", False, ((ANY, ALL),))))
        behind = ("first", False, ((TWO, END),))
        self.assertEqual(of_list([ONE, TWO]), with_part(4, ("first", False, ((ONE, behind),))))
        behind = ("first", False, ((TWO, ALL),))
        self.assertEqual(of_list([ONE, TWO], True), with_part(4, ("first", False, ((ONE, behind),))))

    def test_nothing_in_the_place_of_a_kind(self):
        for kinds in ([NOTHING], [NOTHING, ONE], [ONE, NOTHING], [ONE, NOTHING, ANY], [of_list([NOTHING])]):
            for more in (False, True):
                self.assertEqual(of_list(kinds, more), PLAIN_NOTHING)

    def test_against_the_words_of_the_document(self):
        kinds = [ONE, ANY, join(ONE, NONE), NOTHING, of_list([]), of_numbers(1, 2), less(ANY, ONE)]
        for length in range(4):
            for chosen in itertools.product(kinds, repeat=length):
                for more in (False, True):
                    told = of_list(list(chosen), more)
                    self.assertEqual(faults_of_kind(told), [])
                    for thing in THINGS:
                        self.assertIs(is_in(told, thing), self.is_said(chosen, more, thing))

    def is_said(self, kinds, more, thing):
        if thing[0] != "list" or len(thing[1]) < len(kinds) or (len(thing[1]) > len(kinds) and not more):
            return False
        return all(is_in(kind, item) for kind, item in zip(kinds, thing[1]))

    def test_the_list_handed_in(self):
        kinds = [ONE, TWO]
        told = of_list(kinds, True)
        text = str(told)
        self.assertEqual(kinds, [ONE, TWO])
        kinds.append(NOTHING)
        kinds[0] = NOTHING
        self.assertEqual(str(told), text)


class Records(unittest.TestCase):
    def test_without_fields(self):
        self.assertEqual(of_record([]), with_part(5, EMPTY))
        self.assertEqual(of_record([], False), with_part(5, EMPTY))
        self.assertEqual(of_record([], True), with_part(5, WIDE))
        self.assertEqual(of_record([], more=True), of_sort("record"))

    def test_with_one_field(self):
        for must, more, absent, rest in [
            (True, False, SHUT, EMPTY), (True, True, SHUT, WIDE), (False, False, EMPTY, EMPTY), (False, True, WIDE, WIDE),
        ]:
            with self.subTest(must=must, more=more):
                told = with_part(5, ("name", "a", absent, ((ONE, rest),)))
                self.assertEqual(of_record([("a", ONE, must)], more), told)

    def test_any_in_the_place_of_a_kind(self):
        self.assertEqual(of_record([("a", ANY, True)]), with_part(5, ("name", "a", SHUT, ((ANY, EMPTY),))))
        self.assertEqual(of_record([("a", ANY, True)], True), with_part(5, ("name", "a", SHUT, ((ANY, WIDE),))))
        self.assertEqual(of_record([("a", ANY, False)]), with_part(5, ("name", "a", EMPTY, ((ANY, EMPTY),))))
        self.assertEqual(of_record([("a", ANY, False)], True), with_part(5, WIDE))
        told = of_record([("a", ANY, False), ("b", ONE, True), ("c", ANY, False)], True)
        self.assertEqual(told, with_part(5, ("name", "b", SHUT, ((ONE, WIDE),))))

    def test_nothing_in_the_place_of_a_kind(self):
        self.assertEqual(of_record([("a", NOTHING, True)]), PLAIN_NOTHING)
        self.assertEqual(of_record([("a", NOTHING, True)], True), PLAIN_NOTHING)
        self.assertEqual(of_record([("a", NOTHING, False)]), with_part(5, EMPTY))
        self.assertEqual(of_record([("a", NOTHING, False)], True), with_part(5, ("name", "a", WIDE, ())))
        self.assertEqual(of_record([("a", ONE, True), ("b", NOTHING, True)], True), PLAIN_NOTHING)
        self.assertEqual(of_record([("a", NOTHING, True), ("b", ONE, False)], True), PLAIN_NOTHING)
        told = of_record([("a", ONE, True), ("b", NOTHING, False)])
        self.assertEqual(told, with_part(5, ("name", "a", SHUT, ((ONE, EMPTY),))))

    def test_names_in_any_order(self):
        fields = [("a", ONE, True), ("aa", TWO, False), ("ab", NONE, True), ("b", ANY, True)]
        last = ("name", "b", SHUT, ((ANY, EMPTY),))
        third = ("name", "ab", SHUT, ((NONE, last),))
        second = ("name", "aa", third, ((TWO, third),))
        for order in itertools.permutations(fields):
            self.assertEqual(of_record(list(order)), with_part(5, ("name", "a", SHUT, ((ONE, second),))))

    def test_against_the_words_of_the_document(self):
        kinds = [ONE, ANY, NOTHING, less(ANY, ONE), of_numbers(1, 2), of_sort("record")]
        ways = list(itertools.product(kinds, (False, True)))
        for names in ([], ["a"], ["ab"], ["ab", "a"], ["a", "c"]):
            for chosen in itertools.product(ways, repeat=len(names)):
                fields = [(name, kind, must) for name, (kind, must) in zip(names, chosen)]
                for more in (False, True):
                    told = of_record(fields, more)
                    self.assertEqual(faults_of_kind(told), [])
                    for thing in THINGS:
                        self.assertIs(is_in(told, thing), self.is_said(fields, more, thing))

    def is_said(self, fields, more, thing):
        if thing[0] != "record":
            return False
        found = dict(thing[1])
        for name, kind, must in fields:
            if name in found and not is_in(kind, found[name]) or name not in found and must:
                return False
        return more or set(found) <= {name for name, kind, must in fields}

    def test_the_list_handed_in(self):
        fields = [("b", ONE, True), ("a", TWO, False)]
        told = of_record(fields, True)
        text = str(told)
        self.assertEqual(fields, [("b", ONE, True), ("a", TWO, False)])
        fields.append(("c", NOTHING, True))
        fields[0] = ("b", NOTHING, True)
        self.assertEqual(str(told), text)


class Just(unittest.TestCase):
    def test_plain_ones(self):
        self.assertEqual(just(("none",)), with_part(0, True))
        self.assertEqual(just(("truth", True)), with_part(1, (True,)))
        self.assertEqual(just(("truth", False)), with_part(1, (False,)))
        self.assertEqual(just(("number", -7)), with_part(2, (((-7,), (-7,)),)))
        self.assertEqual(just(("text", "a b")), with_part(3, ("only", ("a b",))))

    def test_lists_and_records(self):
        self.assertEqual(just(("list", ())), with_part(4, END))
        self.assertEqual(just(("list", (("number", 1),))), with_part(4, ("first", False, ((ONE, END),))))
        self.assertEqual(just(("record", ())), with_part(5, EMPTY))
        within = ("name", "ab", SHUT, ((with_part(4, END), EMPTY),))
        told = just(("record", (("a", ("number", 1)), ("ab", ("list", ())))))
        self.assertEqual(told, with_part(5, ("name", "a", SHUT, ((ONE, within),))))

    def test_just_this_one(self):
        for thing in THINGS:
            self.assertEqual(faults_of_kind(just(thing)), [])
            for other in THINGS:
                self.assertIs(is_in(just(thing), other), thing == other)
                self.assertEqual(meet(just(thing), just(other)), just(thing) if thing == other else NOTHING)

    def test_nested_twenty_deep(self):
        for around in (
            lambda thing: ("list", (thing,)), lambda thing: ("record", (("z" * 30, thing),)),
            lambda thing: ("list", (("none",), ("record", (("a", ("none",)), ("b", thing))))),
        ):
            thing, other = ("text", "a" * 400), ("text", "a" * 399)
            for _ in range(20):
                thing, other = around(thing), around(other)
            self.assertTrue(is_in(just(thing), thing))
            self.assertFalse(is_in(just(thing), other))
            self.assertNotEqual(just(thing), just(other))

    def test_a_long_list(self):
        thing = ("list", tuple([("number", k) for k in range(2000)]))
        self.assertEqual(just(thing)[4][2][0][0], just(("number", 0)))


class Arguments(unittest.TestCase):
    def test_names_and_defaults(self):
        for made, names in [
            (of_sort, "(word)"), (of_truth, "(truth)"), (of_numbers, "(low, high)"), (of_text, "(text)"),
            (of_list, "(kinds, more=False)"), (of_record, "(fields, more=False)"), (just, "(thing)"),
        ]:
            self.assertEqual(str(inspect.signature(made)), names)


if __name__ == "__main__":
    unittest.main()

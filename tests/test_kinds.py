import inspect
import random
import sys
import unittest

from meetvalue.kinds import ANY, NOTHING, join, less, meet, opened
from meetvalue.making import just, of_list, of_numbers, of_record, of_sort, of_text, of_truth
from meetvalue.meaning import kind_of
from slow import (
    PLAIN_ANY, PLAIN_NOTHING, SHUT, WIDE, all_less, faults_of_kind, faults_of_record_form, is_in, joined, number,
    opened_slowly, record_is_in, some_cells, some_tree, spaces,
)

NO, ALL, END = ("no",), ("all",), ("first", True, ())
EMPTY = ("rest", True, False)
ONE, TWO, THREE = number(1), number(2), number(3)
NONE = of_sort("none")
BIG = 10 ** 59


def lists(form):
    return (False, (), (), ("only", ()), form, SHUT)


def records(form):
    return (False, (), (), ("only", ()), NO, form)


def small_kinds():
    nested = of_record([("a", of_list([ONE], True), True), ("b", NONE, False)])
    return [
        NOTHING, ANY, NONE, of_truth(True), of_truth(False), of_sort("truth"), of_sort("number"), ONE, of_numbers(1, 3),
        of_numbers(None, 1), of_numbers(2, None), less(of_sort("number"), TWO), of_sort("text"), of_text(""),
        of_text("a"), less(of_sort("text"), of_text("a")), of_sort("list"), of_list([]), of_list([ONE]),
        of_list([ANY], True), of_list([ONE, TWO]), of_list([of_numbers(1, 2), ANY], True), of_list([of_list([])]),
        of_sort("record"), of_record([]), of_record([("a", ONE, True)]), of_record([("a", ONE, False)], True),
        of_record([("a", ANY, False)]), of_record([("a", NOTHING, False)], True), of_record([("b", ANY, True)], True),
        of_record([("a", ONE, True), ("b", of_sort("record"), False)]), nested, less(ANY, nested),
        less(ANY, of_list([ONE])), less(ANY, ONE), join(ONE, join(of_text("a"), of_list([ONE]))),
    ]


class TheOneForm(unittest.TestCase):
    def test_nothing_and_any(self):
        self.assertEqual(NOTHING, PLAIN_NOTHING)
        self.assertEqual(ANY, PLAIN_ANY)
        self.assertEqual(less(ANY, ANY), PLAIN_NOTHING)
        self.assertEqual(less(ANY, NOTHING), PLAIN_ANY)

    def test_truths_in_their_order(self):
        yes, no = of_truth(True), of_truth(False)
        for told in (join(yes, no), join(no, yes), less(of_sort("truth"), NOTHING), less(ANY, less(ANY, of_sort("truth")))):
            self.assertEqual(told[1], (False, True))
        self.assertEqual(less(of_sort("truth"), yes)[1], (False,))
        self.assertEqual(less(of_sort("truth"), no)[1], (True,))
        self.assertEqual(meet(yes, no), NOTHING)

    def test_spans_and_text_sets_in_their_one_form(self):
        self.assertEqual(join(number(2), join(number(3), number(1)))[2], (((1,), (3,)),))
        self.assertEqual(less(of_numbers(1, 9), number(5))[2], (((1,), (4,)), ((6,), (9,))))
        self.assertEqual(join(of_numbers(None, 4), of_numbers(5, None)), of_sort("number"))
        self.assertEqual(join(of_text("b"), of_text("a"))[3], ("only", ("a", "b")))
        self.assertEqual(less(less(of_sort("text"), of_text("b")), of_text("a"))[3], ("but", ("a", "b")))

    def test_each_sort_by_itself(self):
        words = ("none", "truth", "number", "text", "list", "record")
        whole = NOTHING
        for word in words:
            whole = join(of_sort(word), whole)
        self.assertEqual(whole, PLAIN_ANY)
        for k, word in enumerate(words):
            told = less(ANY, of_sort(word))
            self.assertEqual(told, PLAIN_ANY[:k] + (PLAIN_NOTHING[k],) + PLAIN_ANY[k + 1:])


class Lists(unittest.TestCase):
    def test_all_and_none(self):
        filled = of_list([ANY], True)
        self.assertEqual(filled, lists(("first", False, ((ANY, ALL),))))
        self.assertEqual(less(of_sort("list"), of_list([])), filled)
        self.assertEqual(less(of_sort("list"), filled), lists(END))
        self.assertEqual(join(filled, of_list([])), lists(ALL))
        self.assertEqual(join(of_list([]), filled), lists(ALL))
        self.assertEqual(meet(filled, of_list([])), PLAIN_NOTHING)
        self.assertEqual(less(filled, of_sort("list")), PLAIN_NOTHING)
        self.assertEqual(less(of_list([ONE]), of_list([ANY])), PLAIN_NOTHING)
        self.assertEqual(less(ANY, less(ANY, filled)), filled)

    def test_branches_with_one_form_are_one(self):
        two = of_list([of_numbers(1, 2), THREE])
        self.assertEqual(join(of_list([ONE, THREE]), of_list([TWO, THREE])), two)
        self.assertEqual(two[4], ("first", False, ((of_numbers(1, 2), ("first", False, ((THREE, END),))),)))
        self.assertEqual(join(of_list([ONE]), of_list([TWO])), of_list([of_numbers(1, 2)]))

    def test_branches_are_parted_and_sorted(self):
        told = join(of_list([of_numbers(1, 2), ONE]), of_list([of_numbers(2, 3), TWO]))
        only_one, only_two = ("first", False, ((ONE, END),)), ("first", False, ((TWO, END),))
        both = ("first", False, ((of_numbers(1, 2), END),))
        self.assertEqual(told, lists(("first", False, ((ONE, only_one), (TWO, both), (THREE, only_two)))))
        with_none = join(of_list([NONE, ONE]), of_list([ONE, TWO]))
        self.assertEqual(with_none, lists(("first", False, ((ONE, only_two), (NONE, only_one)))))

    def test_branches_are_sorted_as_tuples(self):
        kinds = [
            of_list([]), of_record([]), of_record([("a", ONE, True)], True), of_text("a"), of_text("ab"), of_text("b"),
            of_numbers(None, 0), of_numbers(1, 2), of_numbers(4, 4), of_truth(False), of_truth(True), NONE,
        ]
        # "name" comes ahead of "rest".
        in_order = [kinds[0], kinds[2], kinds[1]] + kinds[3:]
        told = NOTHING
        for k, kind in enumerate(kinds):
            told = join(of_list([kind, number(100 + k)]), told)
        self.assertEqual([branch[0] for branch in told[4][2]], in_order)

    # Where the first difference lies deep within, where one has more branches than the other, or no such name.
    def test_branches_are_sorted_as_tuples_deep_within(self):
        one_list = of_list([ONE])
        for first, second in [
            (of_list([one_list, ONE]), of_list([join(one_list, of_list([TWO, THREE])), TWO])), (of_record([("a", ONE, True)]), of_record([("a", TWO, False), ("b", ONE, True)])),
            (of_record([("a", ONE, True)], True), of_record([("a", NOTHING, False)], True)), (of_list([]), of_list([ONE])), (of_list([ONE], True), of_list([TWO])),
            (of_record([("a", of_list([ONE]), True)]), of_record([("a", of_list([ONE, ONE]), True)])), (of_sort("list"), of_sort("record")),
        ]:
            self.assertEqual(meet(first, second), NOTHING)
            for one, other in ((first, second), (second, first)):
                for kind in (join(of_list([one, ONE]), of_list([other, TWO])), join(of_record([("n", one, True), ("x", ONE, True)]), of_record([("n", other, True)]))):
                    with self.subTest(one=one, other=other):
                        self.assertEqual(faults_of_kind(kind), [])

    def test_branches_are_sorted_as_tuples_by_chance(self):
        chance = random.Random(19)
        for _ in range(400):
            kinds, taken = [], NOTHING
            for _ in range(chance.choice((2, 2, 3))):
                kind = less(kind_of(some_tree(chance, 3), NOTHING), taken)
                taken = join(taken, kind)
                kinds.append(kind)
            told = NOTHING
            for k, kind in enumerate(kinds):
                told = join(told, of_list([kind, number(k)]) if chance.random() < 0.5 else of_record([("n", kind, True), ("x", number(k), True)]))
            self.assertEqual(faults_of_kind(told), [])

    def test_a_branch_that_comes_to_nothing_is_left_out(self):
        one = join(of_list([ONE, ONE]), of_list([TWO, TWO]))
        other = join(of_list([ONE, TWO]), of_list([TWO, TWO]))
        self.assertEqual(meet(one, other), of_list([TWO, TWO]))
        self.assertEqual(less(one, other), of_list([ONE, ONE]))
        self.assertEqual(meet(of_list([ONE, ONE]), of_list([ONE, TWO])), PLAIN_NOTHING)

    def test_end_and_branches_together(self):
        self.assertEqual(join(of_list([]), of_list([ONE])), lists(("first", True, ((ONE, END),))))
        told = less(of_sort("list"), of_list([ONE], True))
        self.assertEqual(told, lists(("first", True, ((less(ANY, ONE), ALL),))))

    def test_deep_within_lists(self):
        inner = join(of_list([ONE, TWO]), of_list([TWO, TWO]))
        self.assertEqual(of_list([inner]), of_list([of_list([of_numbers(1, 2), TWO])]))
        told = join(of_list([of_list([ANY], True)]), of_list([of_list([])]))
        self.assertEqual(told, lists(("first", False, ((lists(ALL), END),))))


class Records(unittest.TestCase):
    def test_all_and_none(self):
        self.assertEqual(join(of_record([("a", ANY, True)], True), of_record([("a", NOTHING, False)], True)), records(WIDE))
        self.assertEqual(less(of_sort("record"), of_record([])), records(("rest", False, True)))
        self.assertEqual(join(records(("rest", False, True)), of_record([])), records(WIDE))
        self.assertEqual(meet(records(("rest", False, True)), of_record([])), PLAIN_NOTHING)
        self.assertEqual(less(of_record([]), of_record([("a", ONE, False)])), PLAIN_NOTHING)

    def test_a_name_that_less_makes_needless(self):
        has = of_record([("a", ANY, True)], True)
        self.assertEqual(less(of_sort("record"), has), records(("name", "a", WIDE, ())))
        self.assertEqual(less(of_record([("a", ANY, False)]), has), records(EMPTY))
        told = less(of_record([("a", ONE, False), ("b", TWO, True)]), of_record([("a", ONE, True)], True))
        self.assertEqual(told, of_record([("b", TWO, True)]))
        empty_or_open = less(of_sort("record"), of_record([("a", ANY, True)]))
        self.assertEqual(empty_or_open, records(("name", "a", WIDE, ((ANY, ("rest", False, True)),))))

    def test_a_name_that_join_makes_needless(self):
        lacks = of_record([("a", NOTHING, False), ("b", ONE, True)], True)
        has = of_record([("a", ANY, True), ("b", ONE, True)], True)
        self.assertEqual(join(lacks, has), of_record([("b", ONE, True)], True))
        one = of_record([("a", ONE, False), ("b", ONE, True)], True)
        others = of_record([("a", less(ANY, ONE), True), ("b", ONE, True)], True)
        self.assertEqual(join(others, one), of_record([("b", ONE, True)], True))

    def test_a_name_that_meet_makes_needless(self):
        one = of_record([("a", ONE, False)])
        self.assertEqual(meet(one, of_record([("a", TWO, False)])), of_record([]))
        told = meet(of_record([("a", ONE, False), ("b", ONE, True)]), of_record([("a", TWO, False)], True))
        self.assertEqual(told, of_record([("b", ONE, True)]))

    def test_a_name_that_becomes_needless_within(self):
        has = of_record([("a", ONE, True), ("b", ANY, True)], True)
        lacks = of_record([("a", ONE, True), ("b", NOTHING, False)], True)
        self.assertEqual(join(has, lacks), records(("name", "a", SHUT, ((ONE, WIDE),))))
        deep = join(of_list([of_record([("z", has, True)])]), of_list([of_record([("z", lacks, True)])]))
        self.assertEqual(deep, of_list([of_record([("z", of_record([("a", ONE, True)], True), True)])]))
        inner = of_record([("x", of_list([has]), True)])
        told = less(inner, of_record([("x", of_list([less(ANY, has)]), True)]))
        self.assertEqual(told, inner)

    def test_names_rise(self):
        one = of_record([("b", ONE, True)], True)
        other = of_record([("a", ONE, True)], True)
        third = of_record([("ab", ONE, True)], True)
        within = ("name", "ab", SHUT, ((ONE, ("name", "b", SHUT, ((ONE, WIDE),))),))
        told = ("name", "a", SHUT, ((ONE, within),))
        for kind in (meet(one, meet(other, third)), meet(meet(third, one), other), meet(other, meet(third, one))):
            self.assertEqual(kind, records(told))

    def test_a_name_that_one_of_the_two_does_not_look_at(self):
        shut_one = of_record([("b", ONE, True)])
        self.assertEqual(meet(shut_one, of_record([("a", ANY, False)], True)), shut_one)
        self.assertEqual(meet(shut_one, of_record([("a", ANY, True)], True)), PLAIN_NOTHING)
        self.assertEqual(less(shut_one, of_record([("a", ANY, True)], True)), shut_one)
        self.assertEqual(less(shut_one, of_record([("a", NOTHING, False)], True)), PLAIN_NOTHING)
        told = join(of_record([("a", ONE, True)]), of_record([("b", ONE, True)]))
        only_b = ("name", "b", SHUT, ((ONE, EMPTY),))
        self.assertEqual(told, records(("name", "a", only_b, ((ONE, EMPTY),))))

    def test_branches_with_one_form_are_one(self):
        told = join(of_record([("a", ONE, True), ("b", ONE, True)]), of_record([("a", TWO, True), ("b", ONE, True)]))
        self.assertEqual(told, of_record([("a", of_numbers(1, 2), True), ("b", ONE, True)]))
        told = join(of_record([("a", ONE, True), ("b", ONE, True)]), of_record([("a", TWO, True), ("b", TWO, True)]))
        forms = [("name", "b", SHUT, ((kind, EMPTY),)) for kind in (ONE, TWO)]
        self.assertEqual(told, records(("name", "a", SHUT, ((ONE, forms[0]), (TWO, forms[1])))))
        self.assertEqual(less(told, of_record([("a", ONE, True)], True)), of_record([("a", TWO, True), ("b", TWO, True)]))


class Opened(unittest.TestCase):
    def test_rest(self):
        for shut in (False, True):
            for wide in (False, True):
                self.assertEqual(opened(("rest", shut, wide)), ("rest", wide, wide))

    def test_branches_that_let_nothing_in(self):
        self.assertEqual(opened(of_record([("a", ONE, True)])[5]), SHUT)
        form = ("name", "a", WIDE, ((ONE, EMPTY), (TWO, WIDE)))
        self.assertEqual(opened(form), ("name", "a", WIDE, ((TWO, WIDE),)))
        self.assertEqual(opened(("name", "a", EMPTY, ((ONE, WIDE),))), ("name", "a", SHUT, ((ONE, WIDE),)))

    def test_branches_that_become_the_same(self):
        form = ("name", "a", SHUT, ((ONE, ("rest", False, True)), (TWO, WIDE)))
        self.assertEqual(opened(form), ("name", "a", SHUT, ((of_numbers(1, 2), WIDE),)))

    def test_a_name_that_becomes_needless(self):
        self.assertEqual(opened(("name", "a", ("rest", False, True), ((ANY, ("rest", False, True)),))), WIDE)
        self.assertEqual(opened(("name", "a", WIDE, ((ANY, ("rest", False, True)),))), WIDE)
        self.assertEqual(opened(("name", "a", EMPTY, ((ANY, EMPTY),))), SHUT)
        form = ("name", "a", WIDE, ((ONE, ("rest", False, True)), (less(ANY, ONE), WIDE)))
        self.assertEqual(opened(form), WIDE)

    def test_needless_within(self):
        inner = ("name", "b", WIDE, ((ANY, ("rest", False, True)),))
        self.assertEqual(opened(("name", "a", SHUT, ((ONE, inner),))), ("name", "a", SHUT, ((ONE, WIDE),)))
        self.assertEqual(opened(("name", "a", inner, ((ONE, inner),))), ("name", "a", WIDE, ((ONE, WIDE),)))
        self.assertEqual(opened(("name", "a", inner, ((ANY, inner),))), WIDE)
        several = ("name", "a", inner, ((ONE, inner), (TWO, WIDE)))
        self.assertEqual(opened(several), ("name", "a", WIDE, ((of_numbers(1, 2), WIDE),)))

    def test_what_stays(self):
        for form in [WIDE, SHUT, ("name", "a", WIDE, ()), ("name", "a", SHUT, ((ONE, WIDE),))]:
            self.assertEqual(opened(form), form)

    def test_against_the_words_of_the_document(self):
        chance = random.Random(12)
        for title, space in spaces():
            if not title.startswith("records"):
                continue
            for _ in range(25):
                form = joined(chance, space, some_cells(chance, space))[5]
                told = opened(form)
                self.assertEqual(told, opened_slowly(form))
                self.assertEqual(opened(told), told)
                self.assertEqual(faults_of_record_form(told, ""), [])
                for marks, thing, kind in space:
                    if thing[0] == "record":
                        fields = dict(thing[1])
                        self.assertEqual(record_is_in(told, fields, ()), record_is_in(form, fields | {"y": ("none",)}, ()))


class Mixed(unittest.TestCase):
    def test_cells_mixed_in_any_way_are_told_by_equal_tuples(self):
        chance = random.Random(5)
        for title, space in spaces():
            with self.subTest(space=title):
                for _ in range(12):
                    self.check_two(chance, space, some_cells(chance, space), some_cells(chance, space))

    def check_two(self, chance, space, one, other):
        one_kind, other_kind = joined(chance, space, one), all_less(chance, space, other)
        self.assertEqual(one_kind, all_less(chance, space, one))
        self.assertEqual(other_kind, joined(chance, space, other))
        for mix, cells in [
            (meet, [k for k in one if k in other]),
            (join, sorted(set(one + other))),
            (less, [k for k in one if k not in other]),
        ]:
            told = mix(one_kind, other_kind)
            self.assertEqual(told, joined(chance, space, cells))
            self.assertEqual(faults_of_kind(told), [])
            for k, (marks, thing, kind) in enumerate(space):
                self.assertIs(is_in(told, thing), k in cells)

    def test_set_algebra(self):
        kinds = small_kinds()
        for one in kinds:
            self.assertEqual(faults_of_kind(one), [])
            self.check_alone(one)
            for other in kinds:
                self.check_pair(one, other)

    def check_alone(self, one):
        self.assertEqual(meet(one, one), one)
        self.assertEqual(join(one, one), one)
        self.assertEqual(less(one, one), NOTHING)
        self.assertEqual((meet(one, NOTHING), meet(NOTHING, one)), (NOTHING, NOTHING))
        self.assertEqual((join(one, NOTHING), join(NOTHING, one)), (one, one))
        self.assertEqual((less(one, NOTHING), less(NOTHING, one)), (one, NOTHING))
        self.assertEqual((meet(one, ANY), meet(ANY, one)), (one, one))
        self.assertEqual((join(one, ANY), join(ANY, one)), (ANY, ANY))
        self.assertEqual(less(one, ANY), NOTHING)
        self.assertEqual(less(ANY, less(ANY, one)), one)

    def check_pair(self, one, other):
        both, either, left = meet(one, other), join(one, other), less(one, other)
        for told in (both, either, left):
            self.assertEqual(faults_of_kind(told), [])
        self.assertEqual(both, meet(other, one))
        self.assertEqual(either, join(other, one))
        self.assertEqual(left, meet(one, less(ANY, other)))
        self.assertEqual(either, less(ANY, meet(less(ANY, one), less(ANY, other))))
        self.assertEqual(meet(one, either), one)
        self.assertEqual(join(one, both), one)
        self.assertEqual(meet(left, other), NOTHING)
        self.assertEqual(join(left, both), one)
        self.assertEqual(join(left, other), either)

    def test_three_in_any_order(self):
        chance = random.Random(9)
        kinds = small_kinds()
        for _ in range(400):
            one, other, third = [chance.choice(kinds) for _ in range(3)]
            self.assertEqual(meet(one, meet(other, third)), meet(meet(one, other), third))
            self.assertEqual(join(one, join(other, third)), join(join(one, other), third))
            self.assertEqual(meet(one, join(other, third)), join(meet(one, other), meet(one, third)))
            self.assertEqual(less(one, join(other, third)), less(less(one, other), third))

    def test_what_is_handed_in_stays_as_it_was(self):
        self.assertEqual([str(kind) for kind in small_kinds()], [str(kind) for kind in small_kinds()])
        for one in small_kinds():
            for other in small_kinds():
                before = (str(one), str(other))
                meet(one, other), join(one, other), less(one, other)
                self.assertEqual((str(one), str(other)), before)

    def test_arguments(self):
        for mix in (meet, join, less):
            self.assertEqual(list(inspect.signature(mix).parameters), ["one", "other"])
        self.assertEqual(list(inspect.signature(opened).parameters), ["form"])


class Bounds(unittest.TestCase):
    def nested(self, inner, times):
        thing = inner
        for k in range(times):
            thing = ("list", (thing, ("none",))) if k % 2 else ("record", (("a" * 30, thing), ("b", ("truth", True))))
        return thing

    def test_numbers_of_sixty_figures_names_and_texts(self):
        most = 10 * BIG - 1
        self.assertEqual(less(of_numbers(-most, most), of_numbers(1 - most, most - 1))[2], (((-most,),) * 2, ((most,),) * 2))
        long = "~" * 400
        self.assertEqual(less(of_sort("text"), of_text(long))[3], ("but", (long,)))
        name = "z" * 30
        told = meet(of_record([(name, ONE, True)], True), of_record([(name[:29], TWO, True)], True))
        self.assertEqual(told, of_record([(name, ONE, True), (name[:29], TWO, True)], True))

    def test_things_nested_twenty_deep(self):
        one, other = just(self.nested(("number", 1), 20)), just(self.nested(("number", 2), 20))
        depth = len(inspect.stack())
        limit = sys.getrecursionlimit()
        # Some hundred calls have to do.
        sys.setrecursionlimit(depth + 300)
        try:
            self.assertEqual(meet(one, other), NOTHING)
            self.assertEqual(less(join(one, other), other), one)
            self.assertEqual(less(less(ANY, one), less(ANY, join(one, other))), other)
        finally:
            sys.setrecursionlimit(limit)

    def test_many_names_that_a_record_may_have(self):
        letters = "abcdefghijklmnopqrst"
        kind = of_record([(letter, ONE, False) for letter in letters])
        wide = of_record([(letter, of_numbers(0, 5), False) for letter in letters], True)
        self.assertTrue(is_in(meet(kind, wide), ("record", (("c", ("number", 1)), ("t", ("number", 1))))))
        left = less(wide, kind)
        self.assertTrue(is_in(left, ("record", (("c", ("number", 2)),))))
        self.assertFalse(is_in(left, ("record", (("c", ("number", 1)),))))
        any_of = NOTHING
        for letter in letters:
            any_of = join(of_record([(letter, ONE, True)], True), any_of)
        self.assertEqual(less(any_of, any_of), NOTHING)
        self.assertTrue(is_in(any_of, ("record", (("t", ("number", 1)),))))
        self.assertFalse(is_in(any_of, ("record", (("t", ("number", 2)),))))


class TheTestsOwnLook(unittest.TestCase):
    def test_faults_are_seen(self):
        wrong_lists = [
            ("first", False, ()), ("first", True, ((ANY, ALL),)), ("first", True, ((NOTHING, ALL),)),
            ("first", True, ((ONE, NO),)), ("first", True, ((TWO, END), (ONE, ALL))), ("first", True, [(ONE, END)]),
            ("first", True, ((ONE, END), (TWO, END))), ("first", True, ((of_numbers(1, 2), END), (TWO, ALL))),
            ("first", True, ((ONE, ("first", False, ())),)), ("none",), ("all", ()), ("first", 1, ((ONE, END),)),
            ("first", True, ((lists(("first", False, ())), END),)),
        ]
        wrong_records = [
            ("rest", True), ("rest", 1, 0), ("name", "a", WIDE, ((ANY, WIDE),)), ("name", "a", EMPTY, ()),
            ("name", "a", SHUT, ((NOTHING, WIDE),)), ("name", "a", WIDE, ((ONE, SHUT),)),
            ("name", "a", SHUT, ((TWO, EMPTY), (ONE, WIDE))), ("name", "a", SHUT, ((ONE, WIDE), (TWO, WIDE))),
            ("name", "a", SHUT, ((of_numbers(1, 2), EMPTY), (TWO, WIDE))),
            ("name", "b", SHUT, ((ONE, ("name", "a", SHUT, ((ONE, WIDE),))),)),
            ("name", "b", ("name", "b", WIDE, ()), ((ONE, WIDE),)), ("name", "a", ("rest", False, True), ((ANY, WIDE),)),
        ]
        for kind in [lists(form) for form in wrong_lists] + [records(form) for form in wrong_records] + [
            NOTHING[:5], (1,) + NOTHING[1:], (True, (True, False)) + NOTHING[2:], (True, (0,)) + NOTHING[2:],
            NOTHING[:2] + ((((1,), (2,)), ((3,), ())),) + NOTHING[3:], NOTHING[:3] + (("only", ("b", "a")),) + NOTHING[4:],
        ]:
            with self.subTest(kind=kind):
                self.assertNotEqual(faults_of_kind(kind), [])


if __name__ == "__main__":
    unittest.main()

import itertools
import unittest

from meetvalue.spans import in_spans, mixed_spans, number_of, spans_of

ALL = (((), ()),)
BIG = 12345678901234567890123456789012345678901234567890
WORDS = ("and", "or", "less")

# Sets of whole numbers are told here by marks: one for all numbers below 0, one each for 0 to 3, one for all above.
MARKS = list(itertools.product((False, True), repeat=6))


def spans_by_marks(marks):
    # Written by the words of the document alone, run by run, as what the program is held against.
    lows = [None, 0, 1, 2, 3, 4]
    highs = [-1, 0, 1, 2, 3, None]
    spans = []
    k = 0
    while k < 6:
        if not marks[k]:
            k += 1
            continue
        first = k
        while k + 1 < 6 and marks[k + 1]:
            k += 1
        low = () if lows[first] is None else (lows[first],)
        high = () if highs[k] is None else (highs[k],)
        spans.append((low, high))
        k += 1
    return tuple(spans)


def mixed_mark(word, one, other):
    return {"and": one and other, "or": one or other, "less": one and not other}[word]


class SpansOf(unittest.TestCase):
    def check(self, pairs, spans):
        for order in itertools.permutations(pairs):
            with self.subTest(pairs=order):
                told = spans_of(list(order))
                self.assertEqual(told, spans)
                self.assert_tuples(told)

    def assert_tuples(self, told):
        self.assertIsInstance(told, tuple)
        for pair in told:
            self.assertIsInstance(pair, tuple)
            self.assertEqual(len(pair), 2)
            self.assertIsInstance(pair[0], tuple)
            self.assertIsInstance(pair[1], tuple)

    def test_no_pairs(self):
        self.check([], ())

    def test_one_pair(self):
        self.check([(1, 9)], (((1,), (9,)),))
        self.check([(7, 7)], (((7,), (7,)),))
        self.check([(-9, -1)], (((-9,), (-1,)),))
        self.check([(-1, 0)], (((-1,), (0,)),))
        self.check([(0, 0)], (((0,), (0,)),))

    def test_low_above_high(self):
        self.check([(2, 1)], ())
        self.check([(9, 1), (-1, -2), (1, 0)], ())
        self.check([(9, 1), (3, 4)], (((3,), (4,)),))
        self.check([(5, 2), (1, 1), (6, 6)], (((1,), (1,)), ((6,), (6,))))

    def test_overlapping(self):
        self.check([(1, 5), (3, 9)], (((1,), (9,)),))
        self.check([(1, 5), (5, 9)], (((1,), (9,)),))
        self.check([(1, 9), (3, 4)], (((1,), (9,)),))
        self.check([(1, 9), (1, 4), (6, 9)], (((1,), (9,)),))
        self.check([(1, 4), (8, 11), (3, 9), (20, 21)], (((1,), (11,)), ((20,), (21,))))

    def test_side_by_side(self):
        self.check([(1, 4), (5, 9)], (((1,), (9,)),))
        self.check([(-2, -1), (0, 0), (1, 2)], (((-2,), (2,)),))

    def test_one_number_apart(self):
        self.check([(1, 4), (6, 9)], (((1,), (4,)), ((6,), (9,))))
        self.check([(-1, -1), (1, 1), (3, 3)], (((-1,), (-1,)), ((1,), (1,)), ((3,), (3,))))

    def test_without_an_end(self):
        self.check([(None, 3)], (((), (3,)),))
        self.check([(3, None)], (((3,), ()),))
        self.check([(None, None)], ALL)
        self.check([(None, 3), (5, None)], (((), (3,)), ((5,), ())))
        self.check([(None, 3), (4, None)], ALL)
        self.check([(None, 3), (2, None)], ALL)
        self.check([(None, 3), (None, 7), (5, 6)], (((), (7,)),))
        self.check([(3, None), (7, None), (4, 5), (1, 1)], (((1,), (1,)), ((3,), ())))
        self.check([(None, None), (1, 2), (None, 0), (5, None)], ALL)
        self.check([(None, -5), (-3, -3), (9, 1)], (((), (-5,)), ((-3,), (-3,))))

    def test_twice(self):
        self.check([(1, 4), (1, 4)], (((1,), (4,)),))
        self.check([(None, 4), (None, 4), (6, None), (6, None)], (((), (4,)), ((6,), ())))
        self.check([(None, None), (None, None)], ALL)

    def test_fifty_figures(self):
        self.check([(-BIG, BIG)], (((-BIG,), (BIG,)),))
        self.check([(BIG, BIG), (BIG + 1, BIG + 3)], (((BIG,), (BIG + 3,)),))
        self.check([(BIG, BIG), (BIG + 2, BIG + 3)], (((BIG,), (BIG,)), ((BIG + 2,), (BIG + 3,))))
        self.check([(BIG + 1, BIG)], ())

    def test_each_set_from_its_pieces(self):
        pieces = [(None, -1), (0, 0), (1, 1), (2, 2), (3, 3), (4, None)]
        for marks in MARKS:
            pairs = [pieces[k] for k in range(6) if marks[k]]
            with self.subTest(pairs=pairs):
                self.assertEqual(spans_of(pairs), spans_by_marks(marks))
                self.assertEqual(spans_of(pairs[::-1] + pairs), spans_by_marks(marks))

    def test_the_list_handed_in_stays_as_it_was(self):
        pairs = [(5, 9), (1, 4), (None, 0), (9, 8), (1, 4)]
        spans_of(pairs)
        self.assertEqual(pairs, [(5, 9), (1, 4), (None, 0), (9, 8), (1, 4)])

    def test_what_is_told_stays_when_the_list_is_changed(self):
        pairs = [(1, 4), (6, 7)]
        told = spans_of(pairs)
        pairs.append((5, 5))
        pairs[0] = (None, None)
        self.assertEqual(told, (((1,), (4,)), ((6,), (7,))))


class MixedSpans(unittest.TestCase):
    def test_ordinary(self):
        one = spans_of([(1, 9), (20, None)])
        other = spans_of([(None, 3), (9, 25)])
        self.assertEqual(mixed_spans("and", one, other), spans_of([(1, 3), (9, 9), (20, 25)]))
        self.assertEqual(mixed_spans("or", one, other), ALL)
        self.assertEqual(mixed_spans("less", one, other), spans_of([(4, 8), (26, None)]))
        self.assertEqual(mixed_spans("less", other, one), spans_of([(None, 0), (10, 19)]))

    def test_empty_and_all(self):
        some = spans_of([(1, 2), (5, None)])
        table = [
            ("and", (), (), ()), ("or", (), (), ()), ("less", (), (), ()),
            ("and", (), ALL, ()), ("or", (), ALL, ALL), ("less", (), ALL, ()), ("less", ALL, (), ALL),
            ("and", ALL, ALL, ALL), ("or", ALL, ALL, ALL), ("less", ALL, ALL, ()),
            ("and", some, (), ()), ("or", some, (), some), ("less", some, (), some), ("less", (), some, ()),
            ("and", some, ALL, some), ("or", some, ALL, ALL), ("less", some, ALL, ()),
            ("less", ALL, some, spans_of([(None, 0), (3, 4)])),
            ("and", some, some, some), ("or", some, some, some), ("less", some, some, ()),
        ]
        for word, one, other, told in table:
            with self.subTest(word=word, one=one, other=other):
                self.assertEqual(mixed_spans(word, one, other), told)
                if word != "less":
                    self.assertEqual(mixed_spans(word, other, one), told)

    def test_each_two_sets_with_each_word(self):
        spans = [spans_by_marks(marks) for marks in MARKS]
        for word in WORDS:
            for one, one_spans in zip(MARKS, spans):
                for other, other_spans in zip(MARKS, spans):
                    marks = [mixed_mark(word, one[k], other[k]) for k in range(6)]
                    told = mixed_spans(word, one_spans, other_spans)
                    if told != spans_by_marks(marks):
                        self.fail(f"{word} {one_spans} {other_spans}: {told}")

    def test_fifty_figures(self):
        one = spans_of([(-BIG, BIG)])
        other = spans_of([(BIG, None)])
        self.assertEqual(mixed_spans("and", one, other), (((BIG,), (BIG,)),))
        self.assertEqual(mixed_spans("or", one, other), (((-BIG,), ()),))
        self.assertEqual(mixed_spans("less", one, other), (((-BIG,), (BIG - 1,)),))
        self.assertEqual(mixed_spans("less", other, one), (((BIG + 1,), ()),))


class InSpans(unittest.TestCase):
    def test_edges(self):
        spans = spans_of([(None, -5), (1, 3), (7, 7), (BIG, None)])
        for number in (-BIG, -6, -5, 1, 2, 3, 7, BIG, BIG + 1):
            with self.subTest(number=number):
                self.assertIs(in_spans(spans, number), True)
        for number in (-4, -1, 0, 4, 6, 8, BIG - 1):
            with self.subTest(number=number):
                self.assertIs(in_spans(spans, number), False)

    def test_none_and_all(self):
        for number in (-BIG, -1, 0, 1, BIG):
            self.assertIs(in_spans((), number), False)
            self.assertIs(in_spans(ALL, number), True)

    def test_each_set(self):
        for marks in MARKS:
            spans = spans_by_marks(marks)
            for k in range(6):
                self.assertIs(in_spans(spans, k - 1), marks[k])
            self.assertIs(in_spans(spans, -99), marks[0])
            self.assertIs(in_spans(spans, 99), marks[5])


class NumberOf(unittest.TestCase):
    def test_nothing(self):
        self.assertIs(number_of(()), None)

    def test_something(self):
        several = [
            ALL, spans_of([(0, 0)]), spans_of([(7, 7)]), spans_of([(-3, -2)]), spans_of([(None, -9)]),
            spans_of([(9, None)]), spans_of([(BIG, BIG)]), spans_of([(None, 0)]), spans_of([(0, None)]),
            mixed_spans("less", ALL, spans_of([(-5, 5)])), mixed_spans("less", ALL, spans_of([(0, 0), (9, 9)])),
        ]
        several = several + [spans_by_marks(marks) for marks in MARKS if any(marks)]
        for spans in several:
            with self.subTest(spans=spans):
                told = number_of(spans)
                self.assertIs(type(told), int)
                self.assertTrue(in_spans(spans, told))


if __name__ == "__main__":
    unittest.main()

import itertools
import unittest

from meetvalue.things import is_thing
from meetvalue.texts import in_texts, mixed_texts, text_of

ALL = ("but", ())
NONE = ("only", ())
WORDS = ("and", "or", "less")
NAMED = ("", "A", "a", "b")
SETS = [
    (form, tuple([text for text, mark in zip(NAMED, marks) if mark]))
    for form in ("only", "but")
    for marks in itertools.product((False, True), repeat=4)
]


def expected(word, one, other):
    # By the words of the document: what is in is looked up text by text, and for a text that neither names.
    def mixed(in_one, in_other):
        return {"and": in_one and in_other, "or": in_one or in_other, "less": in_one and not in_other}[word]

    def has(texts, text):
        return text in texts[1] if texts[0] == "only" else text not in texts[1]

    others = mixed(has(one, "unnamed"), has(other, "unnamed"))
    told = [text for text in NAMED if mixed(has(one, text), has(other, text)) != others]
    return ("but" if others else "only", tuple(told))


class MixedTexts(unittest.TestCase):
    def test_ordinary(self):
        one = ("only", ("a", "b"))
        other = ("only", ("b", "c"))
        self.assertEqual(mixed_texts("and", one, other), ("only", ("b",)))
        self.assertEqual(mixed_texts("or", one, other), ("only", ("a", "b", "c")))
        self.assertEqual(mixed_texts("or", other, one), ("only", ("a", "b", "c")))
        self.assertEqual(mixed_texts("less", one, other), ("only", ("a",)))
        self.assertEqual(mixed_texts("less", other, one), ("only", ("c",)))

    def test_one_of_each_form(self):
        one = ("only", ("a", "b"))
        other = ("but", ("b", "c"))
        self.assertEqual(mixed_texts("and", one, other), ("only", ("a",)))
        self.assertEqual(mixed_texts("and", other, one), ("only", ("a",)))
        self.assertEqual(mixed_texts("or", one, other), ("but", ("c",)))
        self.assertEqual(mixed_texts("or", other, one), ("but", ("c",)))
        self.assertEqual(mixed_texts("less", one, other), ("only", ("b",)))
        self.assertEqual(mixed_texts("less", other, one), ("but", ("a", "b", "c")))

    def test_all_but_some(self):
        one = ("but", ("a", "b"))
        other = ("but", ("b", "c"))
        self.assertEqual(mixed_texts("and", one, other), ("but", ("a", "b", "c")))
        self.assertEqual(mixed_texts("or", one, other), ("but", ("b",)))
        self.assertEqual(mixed_texts("less", one, other), ("only", ("c",)))
        self.assertEqual(mixed_texts("less", other, one), ("only", ("a",)))

    def test_empty_and_all(self):
        table = [
            ("and", NONE, NONE, NONE), ("or", NONE, NONE, NONE), ("less", NONE, NONE, NONE),
            ("and", NONE, ALL, NONE), ("and", ALL, NONE, NONE), ("or", NONE, ALL, ALL), ("or", ALL, NONE, ALL),
            ("less", NONE, ALL, NONE), ("less", ALL, NONE, ALL),
            ("and", ALL, ALL, ALL), ("or", ALL, ALL, ALL), ("less", ALL, ALL, NONE),
        ]
        for word, one, other, told in table:
            with self.subTest(word=word, one=one, other=other):
                self.assertEqual(mixed_texts(word, one, other), told)

    def test_each_two_sets_with_each_word(self):
        for word, one, other in itertools.product(WORDS, SETS, SETS):
            told = mixed_texts(word, one, other)
            if told != expected(word, one, other):
                self.fail(f"{word} {one} {other}: {told}")
            self.assertIsInstance(told, tuple)
            self.assertIsInstance(told[1], tuple)

    def test_sorted_as_python_sorts(self):
        one = ("only", (" ", "Z", "aa", "~"))
        other = ("only", ("", "10", "9", "a"))
        self.assertEqual(mixed_texts("or", one, other), ("only", ("", " ", "10", "9", "Z", "a", "aa", "~")))
        self.assertEqual(mixed_texts("less", ("but", one[1]), other)[1], ("", " ", "10", "9", "Z", "a", "aa", "~"))


class InTexts(unittest.TestCase):
    def test_only(self):
        texts = ("only", ("", "a", "b c"))
        for text in ("", "a", "b c"):
            self.assertIs(in_texts(texts, text), True)
        for text in ("b", " ", "A", "aa", "only"):
            self.assertIs(in_texts(texts, text), False)

    def test_all_but(self):
        texts = ("but", ("", "a", "b c"))
        for text in ("", "a", "b c"):
            self.assertIs(in_texts(texts, text), False)
        for text in ("b", " ", "A", "aa", "but", "~"):
            self.assertIs(in_texts(texts, text), True)

    def test_none_and_all(self):
        for text in ("", "a", " ", "x" * 400):
            self.assertIs(in_texts(NONE, text), False)
            self.assertIs(in_texts(ALL, text), True)

    def test_a_text_with_what_is_no_sign_is_in_none(self):
        for text in ('%', 'a"b', "a\n", "\t", "\x7f"):
            with self.subTest(text=text):
                self.assertIs(in_texts(ALL, text), False)
                self.assertIs(in_texts(("but", ("a",)), text), False)
                self.assertIs(in_texts(("only", ("a",)), text), False)


class TextOf(unittest.TestCase):
    def test_nothing(self):
        self.assertIs(text_of(NONE), None)

    def test_something(self):
        several = [
            ALL, ("only", ("",)), ("only", ("b", "c")), ("but", ("",)), ("but", ("0",)), ("but", ("0", "1", "2")),
            ("but", ("", "a", "aa", "aaa")), ("but", tuple(sorted([str(k) for k in range(500)]))),
            ("but", tuple(["a" * k for k in range(401)])), ("but", tuple([" " * k for k in range(401)])),
            ("but", tuple([chr(k) for k in range(32, 127) if k != 34 and k != 37])),
        ]
        for texts in several + [texts for texts in SETS if texts != NONE]:
            with self.subTest(texts=texts):
                told = text_of(texts)
                self.assertTrue(in_texts(texts, told))
                self.assertTrue(is_thing(("text", told)))
                self.assertLessEqual(len(told), 400)

    def test_one_that_the_program_told_left_out_again_and_again(self):
        texts = ALL
        for k in range(50):
            told = text_of(texts)
            self.assertNotIn(told, texts[1])
            texts = mixed_texts("less", texts, ("only", (told,)))
        self.assertEqual(len(texts[1]), 50)


if __name__ == "__main__":
    unittest.main()

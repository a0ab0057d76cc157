import inspect
import itertools
import random
import re
import unittest

from meetvalue.errors import MeetError, NoText
from meetvalue.words import words_of

SIGNS = "".join([chr(n) for n in range(32, 127) if chr(n) not in '%"'])
SINGLE = "{ } [ ] ( ) , : ? & | ! @ .".split()
FORM = re.compile(r'[a-z]+|-?[0-9]+|"[ !#$&-~]*"|\.\.|[{}\[\](),:?&|!@.]')


# By the words of the document, with Python's own patterns; None where it is refused.
def words_slowly(text):
    words = []
    rest = text.lstrip(" ")
    while rest:
        found = FORM.match(rest)
        if found is None:
            return None
        word = found.group()
        if word[-1] in "0123456789" and not re.fullmatch("0|-?[1-9][0-9]{0,59}", word):
            return None
        words.append(word)
        rest = rest[len(word):].lstrip(" ")
    return words


class Words(unittest.TestCase):
    def check(self, text, words):
        with self.subTest(text=text):
            if words is None:
                with self.assertRaises(NoText):
                    words_of(text)
            else:
                told = words_of(text)
                self.assertIsInstance(told, list)
                self.assertEqual(told, words)

    def test_the_examples(self):
        self.check("1..9", ["1", "..", "9"])
        self.check("1-2", ["1", "-2"])
        self.check("a1", ["a", "1"])
        for text in ("007", "-", "- 1", '"abc'):
            self.check(text, None)

    def test_no_words(self):
        for text in ("", " ", "     "):
            self.check(text, [])

    def test_letters(self):
        for word in ("a", "z", "abc", "none", "else", "abcdefghijklmnopqrstuvwxyz", "a" * 30, "b" * 1000):
            self.check(word, [word])
        self.check("ab cd", ["ab", "cd"])
        self.check("  ab   cd  ", ["ab", "cd"])
        self.check("a b", ["a", "b"])

    def test_numbers(self):
        for word in ("0", "1", "9", "10", "-1", "-10", "1234567890", "-9876543210", "100", "-100"):
            self.check(word, [word])
        for text in ("00", "01", "007", "-0", "-00", "-01", "-", "--1", "- 1", "-a", "1-", "1 - 2", "0-0", "a-", "1--2"):
            self.check(text, None)
        self.check("0 0", ["0", "0"])
        self.check("0-1", ["0", "-1"])
        self.check("1-2-3", ["1", "-2", "-3"])
        self.check("-1-1", ["-1", "-1"])
        self.check("0a", ["0", "a"])
        self.check("1a2", ["1", "a", "2"])
        self.check("a-1", ["a", "-1"])
        self.check("0..0", ["0", "..", "0"])
        self.check("..-5", ["..", "-5"])

    def test_sixty_figures(self):
        for figures in (59, 60):
            for word in ("1" * figures, "-" + "1" * figures, "9" + "0" * (figures - 1)):
                self.check(word, [word])
                self.check("a" + word + "a", ["a", word, "a"])
        for figures in (61, 62, 120, 5000):
            for text in ("1" * figures, "-" + "1" * figures, "a " + "9" * figures, "7" + "0" * figures + "..8"):
                self.check(text, None)
        self.check("1" * 60 + " " + "1" * 60, ["1" * 60] * 2)
        self.check("0" * 61, None)

    def test_quoted_texts(self):
        for inner in ("", "a", " ", "a b", "  ", "0", "007", "-", "{..}", SIGNS, "x" * 400, "\\", "'", "\\n", "A", "a.b"):
            word = f'"{inner}"'
            self.check(word, [word])
            self.check(" " + word + " ", [word])
            self.check("a" + word + "1", ["a", word, "1"])
            self.check(word + word, [word, word])
        self.check('""""', ['""', '""'])
        self.check('"a" "b"', ['"a"', '"b"'])
        self.check('"a"b"c"', ['"a"', "b", '"c"'])

    def test_quoted_texts_that_are_none(self):
        for text in ('"', '"a', '""" ', '"a"b"', 'a"', ' "', '"a b c', '"\\""', '"' + "x" * 400):
            self.check(text, None)
        for sign in ("%", "\n", "\t", "\r", "\0", "\x1f", "\x7f", "\x80", "\u00e4", "\u2028", "\U0001f600"):
            self.check(f'"{sign}"', None)
            self.check(f'"a{sign}b"', None)
            self.check(f'"ab{sign}', None)

    def test_single_signs(self):
        for sign in SINGLE:
            self.check(sign, [sign])
            self.check(f" {sign} ", [sign])
            self.check(f"a{sign}b", ["a", sign, "b"])
            self.check(f"{sign} {sign}", [sign, sign])
            self.check(f'1{sign}"x"', ["1", sign, '"x"'])
        self.check("{[(,:?&|!@)]}", list("{[(,:?&|!@)]}"))

    def test_points(self):
        self.check(".", ["."])
        self.check("..", [".."])
        self.check("...", ["..", "."])
        self.check("....", ["..", ".."])
        self.check(". .", [".", "."])
        self.check(".. .", ["..", "."])
        self.check(". ..", [".", ".."])
        self.check("a.b.c", ["a", ".", "b", ".", "c"])
        self.check("1.2", ["1", ".", "2"])
        self.check("[1, ..]", ["[", "1", ",", "..", "]"])
        self.check("1 .. 9", ["1", "..", "9"])

    def test_with_and_without_blanks(self):
        words = ["{", "a", "?", ":", "1", "..", "-2", "|", '"x y"', ",", "b", ":", "!", "@", "a", ".", "b", "&", "(", "c", ")", "}"]
        self.check("".join(words), words)
        self.check(" ".join(words), words)
        self.check("  ".join([""] + words + [""]), words)
        self.check("host: text & !\"\" else @name", ["host", ":", "text", "&", "!", '""', "else", "@", "name"])

    def test_each_sign_by_itself(self):
        for code in list(range(0, 400)) + [0x660, 0xB2, 0x3000, 0xA0, 0x2028, 0xFF11, 0x1D7D8, 0x10FFFF, 0xD800]:
            sign = chr(code)
            if sign == " ":
                told = []
            elif sign in SINGLE or sign in "abcdefghijklmnopqrstuvwxyz0123456789":
                told = [sign]
            else:
                told = None
            self.check(sign, told)
            if told is None:
                self.check("a" + sign, None)
                self.check("a" + sign + "b", None)
                self.check("1 " + sign + " 2", None)

    def test_line_ends_and_tabs(self):
        for text in ("\n", "\t", "a\n", "\na", "a\tb", "a\r\nb", "1\n2", '"a"\n', "a \x0b b", "a\x0cb"):
            self.check(text, None)

    def test_all_short_texts(self):
        for length in range(5):
            for letters in itertools.product('a0 1-."%{A', repeat=length):
                text = "".join(letters)
                words = words_slowly(text)
                if words is None:
                    self.assertRaises(NoText, words_of, text)
                else:
                    self.assertEqual(words_of(text), words)

    def test_longer_texts(self):
        chance = random.Random(7)
        parts = SINGLE + ["..", "a", "zz", "0", "1", "17", "-5", "-", " ", "  ", '"', '""', '"x y"', '"%"', "A", "1" * 31, "00"]
        for _ in range(3000):
            text = "".join([chance.choice(parts) for _ in range(chance.randrange(1, 9))])
            words = words_slowly(text)
            if words is None:
                self.assertRaises(NoText, words_of, text)
            else:
                self.assertEqual(words_of(text), words)

    def test_twenty_thousand_signs(self):
        text = ("ab1-2 .. " * 2223)[:20000]
        self.assertEqual(words_of(text), words_slowly(text))
        self.assertEqual(words_of("a" * 20000), ["a" * 20000])
        self.assertEqual(words_of(" " * 20000), [])
        self.assertEqual(len(words_of("[" * 20000)), 20000)

    def test_what_is_no_text(self):
        for found in (None, True, 0, 1, 1.5, b"a", [], ["a"], (), ("a",), {}, {"a": 1}, object(), str, bytearray(b"a")):
            with self.subTest(found=found):
                self.assertRaises(NoText, words_of, found)
                self.assertRaises(MeetError, words_of, found)

    def test_the_list_is_new_each_time(self):
        text = "a b 1"
        told = words_of(text)
        told.append("c")
        told[0] = "z"
        self.assertEqual(words_of(text), ["a", "b", "1"])
        self.assertIsNot(words_of(text), words_of(text))
        words_of("").append("a")
        self.assertEqual(words_of(""), [])

    def test_arguments(self):
        self.assertEqual(str(inspect.signature(words_of)), "(text)")


if __name__ == "__main__":
    unittest.main()

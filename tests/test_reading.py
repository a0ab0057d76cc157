import unittest

from meetvalue.errors import MeetError, NoRow, NoText, Ring
from meetvalue.reading import read, read_path, read_row, read_rows
from meetvalue.words import words_of
from slow import NoTree, path_slowly, row_slowly, tree_slowly

ONE, TWO, THREE = ("span", 1, 1), ("span", 2, 2), ("span", 3, 3)
A, B = ("place", ("a",)), ("place", ("b",))

TREES = {
    "none": ("word", "none"), "yes": ("word", "yes"), "no": ("word", "no"), "truth": ("word", "truth"),
    "number": ("word", "number"), "text": ("word", "text"), "list": ("word", "list"), "record": ("word", "record"),
    "any": ("word", "any"), "nothing": ("word", "nothing"),
    "1": ONE, "0": ("span", 0, 0), "-7": ("span", -7, -7), "1..9": ("span", 1, 9), "9..1": ("span", 9, 1),
    "1..": ("span", 1, None), "..9": ("span", None, 9), "-9..-1": ("span", -9, -1), "-1..-9": ("span", -1, -9),
    "-1..": ("span", -1, None), "..-1": ("span", None, -1), " 1  ..  9 ": ("span", 1, 9), ".. 9": ("span", None, 9),
    '""': ("text", ""), '"a b"': ("text", "a b"), '"none"': ("text", "none"), '"[@a, ..]"': ("text", "[@a, ..]"),
    "[]": ("list", (), False), "[..]": ("list", (), True), "[1]": ("list", (ONE,), False),
    "[..5]": ("list", (("span", None, 5),), False), "[1..]": ("list", (("span", 1, None),), False),
    "[1, ..]": ("list", (ONE,), True), "[1.., ..]": ("list", (("span", 1, None),), True),
    "[1, ..5]": ("list", (ONE, ("span", None, 5)), False), "[1, ..5, ..]": ("list", (ONE, ("span", None, 5)), True),
    "[.. 5]": ("list", (("span", None, 5),), False), "[1 .. ]": ("list", (("span", 1, None),), False),
    "[1, 2, [3]]": ("list", (ONE, TWO, ("list", (THREE,), False)), False),
    "{}": ("record", (), False), "{..}": ("record", (), True), "{a: 1}": ("record", (("a", ONE, True),), False),
    "{a?: 1}": ("record", (("a", ONE, False),), False), "{a: 1, ..}": ("record", (("a", ONE, True),), True),
    "{a: 1..}": ("record", (("a", ("span", 1, None), True),), False),
    "{a: ..5}": ("record", (("a", ("span", None, 5), True),), False),
    "{b: 1, a ? : 2, ..}": ("record", (("b", ONE, True), ("a", TWO, False)), True),
    "{none: 1}": ("record", (("none", ONE, True),), False), "{else?: no}": ("record", (("else", ("word", "no"), False),), False),
    "{a: {a: 1}}": ("record", (("a", ("record", (("a", ONE, True),), False), True),), False),
    "@a": A, "@a.b.c.d": ("place", ("a", "b", "c", "d")), "@ a . b": ("place", ("a", "b")),
    "@none.yes": ("place", ("none", "yes")), "@else": ("place", ("else",)), "(@a)": A, "((@a) & 1)": ("and", (A, ONE)),
    "!1": ("not", ONE), "!!1": ("not", ("not", ONE)), "! ! 1": ("not", ("not", ONE)), "!(1)": ("not", ONE),
    "!(1 | 2)": ("not", ("or", (ONE, TWO))), "![1]": ("not", ("list", (ONE,), False)), "!1..2": ("not", ("span", 1, 2)),
    "!{a: !1}": ("not", ("record", (("a", ("not", ONE), True),), False)),
    "1 & 2": ("and", (ONE, TWO)), "1 & 2 & 3": ("and", (ONE, TWO, THREE)), "1 | 2": ("or", (ONE, TWO)),
    "1 | 2 | 3": ("or", (ONE, TWO, THREE)), "(1 | 2) | 3": ("or", (("or", (ONE, TWO)), THREE)),
    "1 | (2 | 3)": ("or", (ONE, ("or", (TWO, THREE)))), "(1 & 2) & 3": ("and", (("and", (ONE, TWO)), THREE)),
    "1 & (2 & 3)": ("and", (ONE, ("and", (TWO, THREE)))), "1 | 2 & 3": ("or", (ONE, ("and", (TWO, THREE)))),
    "1 & 2 | 3": ("or", (("and", (ONE, TWO)), THREE)), "(1 | 2) & 3": ("and", (("or", (ONE, TWO)), THREE)),
    "1|2&3|1": ("or", (ONE, ("and", (TWO, THREE)), ONE)), "1 & (2)": ("and", (ONE, TWO)), "((1))": ONE,
    "!1 & 2": ("and", (("not", ONE), TWO)), "1 & !2 | !3": ("or", (("and", (ONE, ("not", TWO))), ("not", THREE))),
    "!1 | @a": ("or", (("not", ONE), A)), "[1] & @a": ("and", (("list", (ONE,), False), A)),
    "@a & (@b | 1)": ("and", (A, ("or", (B, ONE)))), "[1 | 2, !3]": ("list", (("or", (ONE, TWO)), ("not", THREE)), False),
}

REFUSED = [
    "", " ", "    ", "else", "foo", "nones", "nothin", "1 2", "1 1", "none yes", '"a" "b"', "..", ".. ..", "1..2..3", "1.. ..2",
    "..1..", "....", "1...2", "1..a", "a..1", "none..1", "1..none", "(", ")", "()", "(1", "1)", "((1)", "(1))", "[1", "1]", "[", "]",
    "{", "}", "{a: 1", "a: 1}", "[1)", "(1]", "{a: 1]", "[1,]", "[,1]", "[,]", "[1,,2]", "[1 2]", "[..,]", "[.., 1]", "[.., ..]",
    "[1, .., 2]", "[1 ..5 ..]", "[none ..]", "[..none]", "{,}", "{a: 1,}", "{, a: 1}", "{a: 1,, b: 2}", "{a: 1 b: 2}", "{a}", "{a:}",
    "{a?}", "{a?:}", "{: 1}", "{a?? : 1}", "{?a: 1}", "{a: 1, .., b: 2}", "{.., a: 1}", "{a: ..}", "{a: .., ..}", "{1: 1}", '{"a": 1}',
    "{a: 1, a: 1}", "{a: 1, b: 2, a?: 3}", "{a.b: 1}", "{a: {b: 1, b: 1}}", "[{a: 1, a: 2}]", "@", "@1", "@.", "@a.", "@.a", "@a..b",
    "@a b", "@a.1", '@"a"', "@@a", "@(a)", "a", "a.b", "!", "!!", "1 !", "1 ! 2", "&", "|", "1 &", "& 1", "1 & & 2", "1 |", "| 1",
    "1 || 2", "1 & | 2", "1 | & 2", "!@a", "!!@a", "!(@a)", "!(1 | @a)", "![@a]", "[@a]", "[1, @a]", "[(@a)]", "[1 | @a]", "[[@a]]",
    "{a: @a}", "{a: 1, b?: @a.b}", "{a: [1, {b: 2 & @a}]}", "@a & [@a]", "1 | {a: (1 | (2 & @b))}", ":", "?", ".", ",", "1:", "1?",
    "1: 2", "a: 1", "1, 2", "1.", ".1", "1.2", "007", "-", "- 1", '"a', '"%"', "1\n", "\n1", "1\t", "A", "1 else 2", "1 ; 2",
]


class Read(unittest.TestCase):
    def test_trees(self):
        for text, tree in TREES.items():
            with self.subTest(text=text):
                self.assertEqual(read(text), tree)

    def test_kinds_of_parts(self):
        def look(tree):
            self.assertIsInstance(tree, tuple)
            if tree[0] in ("list", "record"):
                self.assertIsInstance(tree[1], tuple)
                self.assertIsInstance(tree[2], bool)
                for part in tree[1]:
                    if tree[0] == "record":
                        self.assertIsInstance(part, tuple)
                        self.assertIsInstance(part[2], bool)
                    look(part if tree[0] == "list" else part[1])
            if tree[0] in ("and", "or"):
                self.assertIsInstance(tree[1], tuple)
                for part in tree[1]:
                    look(part)
            if tree[0] == "place":
                self.assertIsInstance(tree[1], tuple)
            if tree[0] == "span":
                self.assertTrue(all(end is None or (isinstance(end, int) and not isinstance(end, bool)) for end in tree[1:]))

        for text in TREES:
            with self.subTest(text=text):
                look(read(text))

    def test_blanks_mean_nothing(self):
        for text, tree in TREES.items():
            words = words_of(text)
            with self.subTest(text=text):
                self.assertEqual(read("   ".join(words)), tree)
                self.assertEqual(read("  " + " ".join(words) + " "), tree)

    def test_brackets_round_anything(self):
        for text, tree in TREES.items():
            with self.subTest(text=text):
                self.assertEqual(read(f"({text})"), tree)
                if "@" not in text or '"' in text:
                    self.assertEqual(read(f"[{text}]"), ("list", (tree,), False))
                    self.assertEqual(read("{a?: (" + text + "), ..}"), ("record", (("a", tree, False),), True))
                    self.assertEqual(read(f"!({text})"), ("not", tree))

    def test_places_within_are_refused(self):
        for text in TREES:
            if "@" in text and '"' not in text:
                for around in ("!({})", "[{}]", "[1, ({})]", "{{a: {}}}", "{{a: 1, b?: {}, ..}}", "1 & !(2 | ({}))", "[[[{}]]]"):
                    with self.subTest(text=around.format(text)):
                        self.assertRaises(NoText, read, around.format(text))

    def test_refused(self):
        for text in REFUSED:
            with self.subTest(text=text):
                self.assertRaises(NoText, read, text)

    def test_no_text(self):
        for found in (None, 1, True, b"1", ["1"], ("1",), {}, 1.5, object()):
            for reader in (read, read_path, read_row, read_rows):
                with self.subTest(found=found, reader=reader.__name__):
                    self.assertRaises(NoText, reader, found)

    def test_refusal_is_none_of_the_others(self):
        for text in REFUSED + [None]:
            with self.assertRaises(MeetError) as caught:
                read(text)
            self.assertIs(type(caught.exception), NoText)
            self.assertNotIsInstance(caught.exception, (Ring, NoRow))

    # Each word left out, and each of some words put in, at every place.
    def test_words_too_many_and_too_few(self):
        for text in TREES:
            words = words_of(text)
            changed = [words[:k] + words[k + 1:] for k in range(len(words))]
            for word in ("1", "..", "none", "a", '"x"', "[", "]", "{", "}", "(", ")", ",", ":", "?", "&", "|", "!", "@", ".", "else"):
                changed += [words[:k] + [word] + words[k:] for k in range(len(words) + 1)]
            for found in changed:
                self.hold_to_slow_look(read, tree_slowly, found)

    def hold_to_slow_look(self, reader, slow, words):
        text = " ".join(words)
        try:
            tree = slow(words)
        except NoTree:
            with self.subTest(text=text):
                self.assertRaises(NoText, reader, text)
        else:
            with self.subTest(text=text):
                self.assertEqual(reader(text), tree)

    def test_depth(self):
        deep = 60
        self.assertEqual(read("(" * deep + "1" + ")" * deep), ONE)
        tree = read("!" * deep + "1")
        for _ in range(deep):
            self.assertEqual(tree[0], "not")
            tree = tree[1]
        self.assertEqual(tree, ONE)
        tree = read("(1 & !" * deep + "1" + ")" * deep)
        for _ in range(deep):
            self.assertEqual(tree[:1] + tree[1][:1] + tree[1][1][:1], ("and", ONE, "not"))
            tree = tree[1][1][1]
        self.assertEqual(tree, ONE)
        tree = read("[{a: " * 20 + "(" * 40 + "1" + ")" * 40 + "}, ..]" * 20)
        for _ in range(20):
            self.assertEqual((tree[0], tree[2], tree[1][0][0]), ("list", True, "record"))
            tree = tree[1][0][1][0][1]
        self.assertEqual(tree, ONE)
        self.assertRaises(NoText, read, "(" * deep + "1" + ")" * (deep - 1))
        self.assertRaises(NoText, read, "[{a: " * 20 + "1" + "}]" * 19)

    def test_length(self):
        self.assertEqual(read("[" + ",".join(["1"] * 9999) + "]"), ("list", (ONE,) * 9999, False))
        self.assertEqual(read("|".join(["1"] * 9999)), ("or", (ONE,) * 9999))
        number = "9" * 60
        self.assertEqual(read(f"-{number}..{number}"), ("span", -int(number), int(number)))
        self.assertRaises(NoText, read, number + "9")
        name = "z" * 30
        self.assertEqual(read("@" + ".".join([name] * 4)), ("place", (name,) * 4))
        self.assertEqual(read('"' + "a" * 400 + '"'), ("text", "a" * 400))


class Paths(unittest.TestCase):
    def test_paths(self):
        for text, path in {
            "a": ("a",), "a.b": ("a", "b"), " a . b ": ("a", "b"), "a.b.c.d": ("a", "b", "c", "d"), "none": ("none",),
            "else.else": ("else", "else"), "a .b": ("a", "b"), "z" * 30: ("z" * 30,),
        }.items():
            with self.subTest(text=text):
                self.assertEqual(read_path(text), path)
                self.assertIsInstance(read_path(text), tuple)

    def test_refused(self):
        for text in [
            "", "  ", ".", "a.", ".a", "a..b", "a...b", "a b", "a. .b", "1", "a.1", '"a"', "@a", "a:", "a: 1", "a,b", "(a)", "a?", "A", "a\n",
            "a\nb", "a_b", "a-b", "a1",
        ]:
            with self.subTest(text=text):
                self.assertRaises(NoText, read_path, text)

    def test_words_too_many_and_too_few(self):
        for count in (1, 2, 3, 4):
            words = ".".join("abcd"[:count]).replace(".", " . ").split()
            changed = [words[:k] + words[k + 1:] for k in range(len(words))]
            for word in ("a", ".", "..", "1", ":", "@", '"a"', "else"):
                changed += [words[:k] + [word] + words[k:] for k in range(len(words) + 1)]
            for found in changed:
                Read.hold_to_slow_look(self, read_path, path_slowly, found)


ROWS = {
    "a: 1": (("a",), (ONE,)), "a.b: 1 else 2": (("a", "b"), (ONE, TWO)), "a: 1 else 2 else 3": (("a",), (ONE, TWO, THREE)),
    "a . b :1": (("a", "b"), (ONE,)), "else: 1": (("else",), (ONE,)), "else.else: 1 else 2": (("else", "else"), (ONE, TWO)),
    "a: @else else @a.else else {else: 1}": (
        ("a",), (("place", ("else",)), ("place", ("a", "else")), ("record", (("else", ONE, True),), False))
    ),
    "a: 1 | 2 else 1 & 2": (("a",), (("or", (ONE, TWO)), ("and", (ONE, TWO)))),
    "a: !1 else @a | 1": (("a",), (("not", ONE), ("or", (A, ONE)))), "a: 1.. else ..2": (("a",), (("span", 1, None), ("span", None, 2))),
    "none.yes: none": (("none", "yes"), (("word", "none"),)), "a: (@b) else [1, ..]": (("a",), (B, ("list", (ONE,), True))),
}


class Rows(unittest.TestCase):
    def test_rows(self):
        for line, row in ROWS.items():
            with self.subTest(line=line):
                self.assertEqual(read_row(line), row)
                self.assertIsInstance(read_row(line), tuple)
                self.assertIsInstance(read_row(line)[1], tuple)

    def test_refused(self):
        for line in [
            "", "  ", "a", "a:", ": 1", "a 1", "1: 1", "a: 1 else", "a: else 1", "a: else", "a: 1 else else 2", "a: 1 2", "a. : 1", "a..b: 1",
            "a: (1 else 2)", "a: [1 else 2]", "a: {b: 1 else 2}", "a: !else", "a: 1 & else 2", "a: 1 | 2 else 3 &", "a: foo", "@a: 1",
            "a: b: 1", "a?: 1", '"a": 1', "a, b: 1", "a: 1, 2", "a: 1\n", "\na: 1", "a: 1\nb: 2", "a:\n1", "a: 1\n\n", "a: [@a]", "a: !@a",
            "a: 1 else {b: @a}", "a: 007", "{a: 1}",
        ]:
            with self.subTest(line=line):
                self.assertRaises(NoText, read_row, line)

    def test_words_too_many_and_too_few(self):
        for line in ROWS:
            words = words_of(line)
            changed = [words[:k] + words[k + 1:] for k in range(len(words))]
            for word in ("1", "..", "a", "else", ":", ".", "@", "(", ")", "{", "|", "!"):
                changed += [words[:k] + [word] + words[k:] for k in range(len(words) + 1)]
            for found in changed:
                Read.hold_to_slow_look(self, read_row, row_slowly, found)

    def test_several(self):
        rows = list(ROWS.values())
        for text in ("\n".join(ROWS), "\n".join(ROWS) + "\n", "\n\n   \n" + "\n  \n\n".join(ROWS) + "\n\n"):
            self.assertEqual(read_rows(text), rows)
        self.assertEqual(read_rows("a: 1"), [(("a",), (ONE,))])
        self.assertEqual(read_rows("a: 1\na: 1"), [(("a",), (ONE,))] * 2)

    def test_no_rows(self):
        for text in ("", " ", "\n", "\n\n \n", "   \n"):
            with self.subTest(text=text):
                self.assertEqual(read_rows(text), [])

    def test_several_refused(self):
        for text in [
            "a", "a: 1\nb", "b\na: 1", "a: 1\n\nb: 2\nc:\n", "a: 1 else\n2", "a: [1,\n2]", "a: 1\r\nb: 2", "a: 1\rb: 2", "a: 1\vb: 2",
            "a: 1\n\t\nb: 2", "a: 1\x0cb: 2", "a: 1\x1cb: 2", "a: 1\u2028b: 2", "a: 1\u0085b: 2", 'a: "x\ny"', "%", "a: 1\n%",
        ]:
            with self.subTest(text=text):
                self.assertRaises(NoText, read_rows, text)

    def test_told_lists_are_new(self):
        text = "a: 1\nb: 2"
        told = read_rows(text)
        told.append("x")
        told[0] = None
        self.assertEqual(read_rows(text), [(("a",), (ONE,)), (("b",), (TWO,))])
        empty = read_rows("")
        empty.append(1)
        self.assertEqual(read_rows(""), [])


if __name__ == "__main__":
    unittest.main()

"""[2], [11], [12], [13]: the texts of keys."""

import unittest

from sayings import KEY, KEYS
from twigmap.errors import NoText
from twigmap.shows import read, read_many, show

MOST = 10 ** 60 - 1

SHOWN = [
    (0, "0"), (7, "7"), (10, "10"), (-1, "-1"), (-120, "-120"),
    (MOST, "9" * 60), (-MOST, "-" + "9" * 60), (10 ** 59, "1" + "0" * 59), (-10 ** 59, "-1" + "0" * 59),
    ("", '""'), (" ", '" "'), ("a b", '"a b"'), ("  ", '"  "'), ("12", '"12"'), ("-", '"-"'), ("()", '"()"'),
    ('"', '"\\""'), ("\\", '"\\\\"'), ('\\"', '"\\\\\\""'), ('"\\', '"\\"\\\\"'), ('a"b\\c', '"a\\"b\\\\c"'),
    ("a" * 40, '"' + "a" * 40 + '"'), (" " * 40, '"' + " " * 40 + '"'), ("~" * 40, '"' + "~" * 40 + '"'),
    ('"' * 40, '"' + '\\"' * 40 + '"'), ("\\" * 40, '"' + "\\\\" * 40 + '"'), ("n\\n", '"n\\\\n"'),
    ((), "()"), ((1,), "(1)"), (("",), '("")'), ((1, 2), "(1 2)"), ((1, 2, 3, 4), "(1 2 3 4)"),
    ((0, -1, "a", ()), '(0 -1 "a" ())'), (((),), "(())"), ((((),),), "((()))"), ((1, (2, (3,))), "(1 (2 (3)))"),
    (((), (), (), ()), "(() () () ())"), ((((1, 2, 3, 4),),), "(((1 2 3 4)))"),
    ((-5, "a b", ('"',)), '(-5 "a b" ("\\""))'),
    ((("a" * 40, MOST, -MOST, ()), 0), '(("' + "a" * 40 + '" ' + "9" * 60 + " -" + "9" * 60 + " ()) 0)"),
    (("(", ")", " ", "\\"), '("(" ")" " " "\\\\")'),
]

# Each text with the place at which it is refused: what the document names, and the edges beside it.
REFUSED = [
    ("", 0), ("01", 1), ("00", 1), ("-0", 1), ("-", 1), ("--1", 1), ("-01", 1), ("- 1", 1), ("+1", 0), ("-\"", 1),
    ("1-", 1), ("1a", 1), ("1 ", 1), (" 1", 0), (" ", 0), ("1 2", 1), ("1.0", 1), ("1_0", 1), ("-(", 1), ("0 ", 1),
    ("1" * 61, 60), ("-" + "1" * 61, 61), ("1" * 60 + "0", 60), ("1" * 60 + "a", 60), ("1" * 70, 60),
    ("(" + "1" * 61, 61), ("(1 -" + "1" * 61 + ")", 64), ("(01)", 2), ("(-0)", 2), ("(1 00)", 4),
    ("a", 0), ("x" * 5, 0), (")", 0), ("\\", 0), ("'a'", 0), ("None", 0), ("[]", 0), ("~", 0), ("!", 0),
    ('"', 1), ('"a', 2), ('"a""', 3), ('"a" ', 3), ('"a"b', 3), ('""1', 2), ('"""', 2),
    ('"\\', 2), ('"\\a"', 2), ('"\\n"', 2), ('"\\ "', 2), ('"\\(', 2), ('"a\\~"', 3), ('"\\\\\\"', 5), ('"\\""\\', 4),
    ('"' + "a" * 40, 41), ('"' + "a" * 41 + '"', 41), ('"' + "a" * 41, 41), ('"' + "a" * 50, 41),
    ('"' + "a" * 40 + '\\""', 41), ('"' + "a" * 40 + '\\\\"', 41), ('"' + "a" * 40 + "\\", 41),
    ('"' + "a" * 39 + '\\"b"', 42), ('"' + '\\"' * 40 + '\\""', 81), ('"' + "\\\\" * 40 + 'a"', 81),
    ('"' + "a" * 39 + "\\", 41), ('"' + "a" * 39 + "\\a", 41), ('"' + "a" * 40 + '" ', 42),
    ("(", 1), ("( ", 1), ("( )", 1), ("( 1)", 1), ("(1", 2), ("(1 ", 3), ("(1 )", 3), ("(1  2)", 3), ("(1,2)", 2),
    ("(1(", 2), ('(1"a")', 2), ("(()())", 3), ('("a"1)', 4), ("(1))", 3), ("()(", 2), ("() ", 2), ("(a)", 1), ("(-)", 2),
    ("(1 2 3 4 5)", 8), ("(1 2 3 4 ", 8), ("(1 2 3 4)5", 9), ("(() () () () ())", 12), ("(1 2 3 4", 8),
    ("((1 2 3 4 5))", 9), ("(((1 2 3 4 5)))", 10), ('("" "" "" "" "")', 12), ("(1 2 3 45 6)", 9),
    ("(((", 3), ("((((", 3), ("(((()", 3), ("(((())))", 3), ("(1 (2 (3 (4))))", 9), ("((() (", 6), ("((() ((", 6),
    ("(() ((1) (()", 10), ("((() (()", 6), ("(() () ((", 9),
    ("\n", 0), ("1\n", 1), ('"\n"', 1), ('"a\tb"', 2), ('"\x7f"', 1), ('"\x1f"', 1), ("(1\n2)", 2), ("(1\t", 2),
    ('"\xe4"', 1), ('"' + "a" * 39 + '\x7f"', 40), ('"\\\x7f"', 2), ("\u0661", 0), ("1\u0661", 1),
]

ENDINGS = [begun + ")" * closed for begun in ("", "1", '"', '""') for closed in range(4)]


def begins(pattern, text):
    return any(pattern.fullmatch(text + ending) for ending in ENDINGS)


def all_beginnings(pattern, signs, longest):
    """Each text that begins one of the pattern's, and behind each the signs that can't go on from it."""
    beginnings = [""]
    while beginnings:
        text = beginnings.pop()
        further = [sign for sign in signs if begins(pattern, text + sign)]
        yield text, [sign for sign in signs if sign not in further]
        if len(text) < longest:
            beginnings.extend(text + sign for sign in further)


def kinds(key):
    if isinstance(key, tuple):
        return (type(key), [kinds(part) for part in key])
    return type(key)


class ReadingTest(unittest.TestCase):
    def assert_refused(self, reader, text, at):
        with self.assertRaises(NoText, msg=repr(text)) as caught:
            reader(text)
        self.assertIs(type(caught.exception), NoText)
        self.assertEqual(caught.exception.at, at, repr(text))
        self.assertIs(type(caught.exception.at), int)


class ShowTest(unittest.TestCase):
    def test_show(self):
        for key, text in SHOWN:
            with self.subTest(text=text):
                self.assertEqual(show(key), text)

    def test_each_sign_within_a_text(self):
        for place in range(32, 127):
            if place != 37:
                sign = chr(place)
                written = "\\" + sign if sign in ('"', "\\") else sign
                self.assertEqual(show("a" + sign), '"a' + written + '"')
                self.assertEqual(read(show("a" + sign)), "a" + sign)


class ReadTest(ReadingTest):
    def test_read_of_show_tells_the_key_again(self):
        for key, text in SHOWN:
            with self.subTest(text=text):
                self.assertEqual(read(text), key)
                self.assertEqual(kinds(read(text)), kinds(key))

    def test_refused(self):
        for text, at in REFUSED:
            with self.subTest(text=text):
                self.assert_refused(read, text, at)

    def test_cut_at_every_place(self):
        for key, text in SHOWN:
            for length in range(len(text)):
                cut = text[:length]
                if isinstance(key, int) and cut not in ("", "-"):
                    self.assertEqual(read(cut), int(cut))
                else:
                    self.assert_refused(read, cut, length)

    def test_a_sign_too_many(self):
        for key, text in SHOWN:
            for sign in ' "\\()-a~\n\x7f':
                self.assert_refused(read, text + sign, len(text))
                self.assert_refused(read, text + sign + "1", len(text))
            if not isinstance(key, int):
                self.assert_refused(read, text + "1", len(text))

    def test_a_sign_in_the_place_of_each(self):
        for _, text in SHOWN:
            for place in range(len(text)):
                self.assert_refused(read, text[:place] + "\n" + text[place:], place)
                self.assert_refused(read, text[:place] + "\x7f" + text[place + 1:], place)

    def test_each_beginning(self):
        self.assert_reads_as(KEY, '019-"\\() a\n', 5)

    def test_each_beginning_of_tuples(self):
        self.assert_reads_as(KEY, "1( )", 9)

    def assert_reads_as(self, pattern, signs, longest):
        for text, wrong in all_beginnings(pattern, signs, longest):
            if pattern.fullmatch(text):
                self.assertEqual(show(read(text)), text)
            else:
                self.assert_refused(read, text, len(text))
            for sign in wrong:
                self.assert_refused(read, text + sign, len(text))
                self.assert_refused(read, text + sign + ')"1', len(text))

    def test_the_bounds_at_each_depth(self):
        for opened in ("", "(", "((", "(((", "(1 ", "(((1 2 3 "):
            closed = ")" * opened.count("(")
            self.assertEqual(show(read(opened + "9" * 60 + closed)), opened + "9" * 60 + closed)
            self.assert_refused(read, opened + "9" * 61 + closed, len(opened) + 60)
            self.assertEqual(show(read(opened + '"' + "a" * 40 + '"' + closed)), opened + '"' + "a" * 40 + '"' + closed)
            self.assert_refused(read, opened + '"' + "a" * 41 + '"' + closed, len(opened) + 41)
            self.assert_refused(read, opened + '"' + "a" * 40 + '\\"' + '"' + closed, len(opened) + 41)

    def test_a_long_text(self):
        self.assert_refused(read, "(" * 50000, 3)
        self.assert_refused(read, "1" * 50000, 60)
        self.assert_refused(read, '"' + "a" * 49999, 41)


class ReadManyTest(ReadingTest):
    def test_none_one_and_several(self):
        self.assertEqual(read_many(""), [])
        for key, text in SHOWN:
            self.assertEqual(read_many(text), [key])
        keys = [key for key, _ in SHOWN]
        told = read_many(" ".join(text for _, text in SHOWN))
        self.assertEqual(told, keys)
        self.assertEqual([kinds(key) for key in told], [kinds(key) for key in keys])
        self.assertEqual(read_many("1 1 1 1 1 1"), [1] * 6)
        self.assertEqual(read_many('1 "1" (1) -1'), [1, "1", (1,), -1])
        self.assertIs(type(read_many("1 2")), list)

    def test_blanks(self):
        for text, at in [
            (" ", 0), ("  ", 0), (" 1", 0), ("1 ", 2), ("1  ", 2), ("1  2", 2), ("1 2 ", 4), ("1 2  3", 4),
            ('"a" ', 4), ('"a"  "b"', 4), ("() ", 3), ("()  ()", 3), ("(1 ) 2", 3), ('" "  1', 4), ("1 2\n", 3),
        ]:
            with self.subTest(text=text):
                self.assert_refused(read_many, text, at)

    def test_no_blank_between(self):
        for text, at in [('1"a"', 1), ('"a""b"', 3), ("()()", 2), ("1()", 1), ("()1", 2), ('""1', 2), ("1,2", 1)]:
            with self.subTest(text=text):
                self.assert_refused(read_many, text, at)

    def test_refused_in_a_later_key(self):
        aheads = ["1 ", '"a b" ', '(1 "x") ', '0 -5 (() ()) "\\"" ', "1 " * 500]
        for text, at in REFUSED:
            # A blank goes on from a whole key here, where read refuses it.
            if text[at:at + 1] == " " and KEY.fullmatch(text[:at]):
                continue
            for before in aheads:
                self.assert_refused(read_many, before + text, len(before) + at)
            if text != "":
                self.assert_refused(read_many, text, at)

    def test_cut_at_every_place(self):
        text = '12 "a \\" b" (-5 "a b" ("\\"")) () 0'
        for length in range(len(text)):
            cut = text[:length]
            if cut == "" or KEYS.fullmatch(cut):
                self.assertEqual(" ".join(show(key) for key in read_many(cut)), cut)
            else:
                self.assert_refused(read_many, cut, length)

    def test_each_beginning(self):
        for text, wrong in all_beginnings(KEYS, '01-"\\() a', 4):
            if text == "" or KEYS.fullmatch(text):
                self.assertEqual(" ".join(show(key) for key in read_many(text)), text)
            else:
                self.assert_refused(read_many, text, len(text))
            for sign in wrong:
                self.assert_refused(read_many, text + sign, len(text))
                self.assert_refused(read_many, text + sign + " 1", len(text))

    def test_a_long_text(self):
        self.assertEqual(read_many("7 " * 24999 + "8"), [7] * 24999 + [8])
        self.assert_refused(read_many, "7 " * 25000, 50000)

    def test_told_lists_are_the_askers_own(self):
        for text, keys in [("", []), ("1", [1]), ('1 "a" ()', [1, "a", ()])]:
            told = read_many(text)
            told.append("changed")
            told.reverse()
            self.assertEqual(read_many(text), keys)
            self.assertEqual(read_many(""), [])


if __name__ == "__main__":
    unittest.main()

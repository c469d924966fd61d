"""[92], [93]: a desk, row by row and answer by answer."""

import collections
import random
import unittest

from books import WEIGHTS, Drawn, PlainBook
from sayings import FORM_OF, PlainDesk, row_plainly
from trees import ODD, RISING, TwigCase
from twigmap.book import Book
from twigmap.desk import Desk
from twigmap.errors import NoName, NoRow, NoVersion, Taken, TwigError
from twigmap.shelf import Shelf

WORDS = [
    "begin", "branch", "back", "close", "drop", "put", "take", "get", "at", "rows", "all", "mark", "meet", "between",
    "base", "story", "names", "versions", "twigs",
]

# How often each deed is drawn: boughs come and go more often than at a book.
DRAWN = {**{deed: weight for deed, weight in WEIGHTS.items() if deed in FORM_OF}, "branch": 10, "close": 9}

# What is none of the rows, behind `begin a`, `put a 1 2` and `mark a`.
NO_ROWS = [
    None, True, 0, 1.5, b"names", [], ["names"], (), ("begin", "b"), {}, object(), "", " ", "  ", "Begin b", "BEGIN b",
    "start b", "beginb", "begins b", "let_go 0", "side a 1", "rows_at 0", "base_of 0 0", "elders_of 0", "elders 0",
    "say names", "a", "0", "ok", "nothing", "-", "\n", "names\n", "\nnames", "names;", "name", " begin b", "begin  b",
    "begin b ", "begin\tb", "begin", "begin ", "begin b c", "begin B", "begin b1", "begin 1", "begin -",
    "begin " + "b" * 13, 'begin "b"', "begin \xe4", "begin b\n", "begin (b)", "branch", "branch b", "branch b ",
    "branch b  0", "branch b 0 ", "branch b 0 0", "branch 0 b", "branch B 0", "branch b 00", "branch b 01",
    "branch b -0", "branch b +0", "branch b -1", "branch b x", "branch b 0.0", "branch b 1234567890",
    "branch b 0000000000", 'branch b "0"', "branch b \u0660", "branch b \xb2", "branch b 1_0", "branch b 0x0",
    "branch b 0\n", "back", "back a", "back a ", "back a a", "back a 0 0", "back 0", "back 0 a", "back a 1234567890",
    "back a 00", "back a -", "close", "close ", "close a a", "close 0", "close A", "close a ", "close  a", "drop",
    "drop ", "drop a", "drop 0 0", "drop 00", "drop 0 ", "drop  0", "drop -1", "drop 1234567890", "drop 9999999999",
    "drop " + "9" * 49000, "put", "put a", "put a ", "put a 1", "put a 1 ", "put a 1 2 ", "put a 1  2", "put a  1 2",
    "put  a 1 2", "put a 1 2 3", "put A 1 2", "put 1 2", "put 1 a 2", "put a 01 2", "put a 1 02", "put a 1 x",
    "put a x 2", 'put a "b 2', 'put a 1 "b', "put a (1 2", "put a (1 2)", "put a ((((1)))) 2", "put a 1 -", "put a - 1",
    "put a 1,2", 'put a 1"b"', "put a 1 2\n", "put a " + "1" * 61 + " 2", 'put a "' + "b" * 41 + '" 2',
    "put a (1 2 3 4 5) 2", 'put a "\\b" 2', "put a 1 None", "take", "take a", "take a ", "take a 1 ", "take a 1 2",
    "take a  1", "take 1", "take a b", "take a -0", 'take a "', "take A 1", "get", "get a", "get a ", "get a 1 2",
    "get a 1 ", "get a b", "get 0 1", "get A 1", "get a (1", "get 1", "at", "at 0", "at 0 ", "at 0 1 2", "at 0 1 ",
    "at a 1", "at 00 1", "at 0 b", "at 1234567890 1", "at 0  1", "at -1 1", "rows", "rows ", "rows a ", "rows a a",
    "rows 0", "rows A", "all", "all ", "all a", "all 0 0", "all 0 ", "all 00", "all -1", "mark", "mark ", "mark a ",
    "mark a a", "mark a 0", "mark 0", "mark A", "meet", "meet a", "meet a 0", "meet a 0 ", "meet a 0 none",
    "meet a 0 One", "meet a 0 one ", "meet a 0 one one", "meet a 00 one", "meet 0 a one", "meet a one 0",
    "meet a 0 bas", "meet a 0 others", "meet a  0 one", "meet A 0 one", "meet a 0 a", "meet a 0 0", "between",
    "between 0", "between 0 ", "between 0 0 ", "between 0 0 0", "between 0  0", "between a 0", "between 0 a",
    "between 00 0", "between 0 00", "between 0 -1", "between 0 1234567890", "base", "base 0", "base 0 ", "base 0 0 0",
    "base a a", "base 0 0 ", "base 01 0", "base 0 -", "story", "story ", "story  1", "story 1 ", "story 1 2", "story a",
    "story 01", 'story "a', "story (1  2)", "story -", "story a 1", "names ", "names a", " names", "Names", "versions ",
    "versions 0", "version", "twigs ", "twigs 0", "twig",
]


class DeskCase(TwigCase):
    def say(self, desk, *pairs):
        """Rows and their answers."""
        for row, wanted in pairs:
            told = desk.say(row)
            self.assertEqual(told, wanted, row)
            self.assertIs(type(told), str)

    def refuse(self, desk, wanted, row):
        before = self.all_said(desk)
        self.assert_refused(wanted, desk.say, row)
        self.assertEqual(self.all_said(desk), before, row)

    def all_said(self, desk):
        names, versions = [[] if told == "nothing" else told.split("; ") for told in map(desk.say,
                                                                                         ("names", "versions"))]
        return (
            names, versions, [desk.say("rows " + name) for name in names],
            [desk.say("all " + number) for number in versions], desk.say("twigs"), desk.say("story 1"),
        )


class AnswerTest(DeskCase):
    def test_a_new_desk(self):
        self.say(Desk(), ("names", "nothing"), ("versions", "nothing"), ("twigs", "0"), ("story 1", "nothing"))

    def test_each_desk_has_a_book_of_its_own(self):
        one, other = Desk(), Desk()
        self.say(one, ("begin a", "ok"), ("put a 1 1", "yes"), ("mark a", "0"), ("twigs", "1"))
        self.say(other, ("names", "nothing"), ("versions", "nothing"), ("twigs", "0"), ("begin a", "ok"),
                 ("rows a", "nothing"))

    def test_boughs(self):
        self.say(
            Desk(), ("begin a", "ok"), ("rows a", "nothing"), ("put a 1 2", "yes"), ("put a 1 2", "no"),
            ("put a 1 3", "yes"), ("get a 1", "3"), ("get a 2", "-"), ("put a 0 0", "yes"), ("rows a", "0 0; 1 3"),
            ("take a 1", "3"), ("take a 1", "-"), ("rows a", "0 0"), ("twigs", "1"), ("begin b", "ok"),
            ("names", "a; b"), ("close a", "ok"), ("names", "b"), ("begin a", "ok"), ("names", "b; a"),
            ("rows a", "nothing"), ("twigs", "0"), ("close b", "ok"), ("close a", "ok"), ("names", "nothing"),
        )

    def test_versions(self):
        self.say(
            Desk(), ("begin main", "ok"), ("put main 1 10", "yes"), ("put main 2 20", "yes"), ("mark main", "0"),
            ("branch side 0", "ok"), ("put side 2 21", "yes"), ("mark side", "1"), ("take main 1", "10"),
            ("mark main", "2"),
            ("versions", "0; 1; 2"), ("at 0 1", "10"), ("at 2 1", "-"), ("all 0", "1 10; 2 20"), ("all 2", "2 20"),
            ("between 1 2", "1 10 -; 2 21 20"), ("between 2 1", "1 - 10; 2 20 21"), ("between 0 0", "nothing"),
            ("base 1 2", "0"), ("story 1", "0 10; 2 -"), ("story 2", "0 20; 1 21"), ("story 3", "nothing"),
            ("drop 0", "ok"), ("versions", "1; 2"), ("base 1 2", "nothing"), ("base 2 2", "2"), ("story 1", "1 10"),
            ("back main 1", "ok"), ("rows main", "1 10; 2 21"), ("mark main", "3"), ("drop 1", "ok"), ("drop 3", "ok"),
            ("story 2", "2 20"), ("drop 2", "ok"), ("versions", "nothing"), ("names", "main; side"),
        )

    def test_versions_without_rows(self):
        self.say(
            Desk(), ("begin a", "ok"), ("mark a", "0"), ("all 0", "nothing"), ("at 0 1", "-"), ("branch b 0", "ok"),
            ("rows b", "nothing"), ("meet b 0 one", "1"), ("between 0 1", "nothing"), ("base 0 1", "0"), ("twigs", "0"),
        )

    def meeting(self):
        desk = Desk()
        self.say(
            desk, ("begin a", "ok"), ("put a 1 1", "yes"), ("put a 2 1", "yes"), ("put a 3 1", "yes"), ("mark a", "0"),
            ("branch b 0", "ok"), ("put b 1 2", "yes"), ("take b 2", "1"), ("put b 3 2", "yes"), ("put b 4 2", "yes"),
            ("mark b", "1"), ("put a 1 3", "yes"), ("put a 2 3", "yes"), ("take a 3", "1"), ("put a 4 3", "yes"),
        )
        return desk

    def test_meet(self):
        clashes = "2; 1 1 3 2; 2 1 3 -; 3 1 - 2; 4 - 3 2"
        for keep, wanted in [("base", "1 1; 2 1; 3 1"), ("one", "1 3; 2 3; 4 3"), ("other", "1 2; 3 2; 4 2")]:
            desk = self.meeting()
            self.say(desk, ("meet a 1 " + keep, clashes), ("rows a", wanted), ("all 2", wanted),
                     ("versions", "0; 1; 2"))
            self.say(desk, ("meet a 1 " + keep, "3"), ("rows a", wanted), ("base 3 1", "1"),
                     ("story 4", desk.say("story 4")))

    def test_keys_and_values_with_blanks_brackets_and_quotes(self):
        self.say(
            Desk(), ("begin a", "ok"), ('put a "a b" "c  d"', "yes"), ('put a (1 "x y" (2 3)) ()', "yes"),
            ('put a "\\"" "\\\\"', "yes"), ('put a " " "; "', "yes"), ('put a "" "-"', "yes"), ('put a "(" ")"', "yes"),
            ("put a () (())", "yes"), ('put a -5 "nothing"', "yes"), ('put a "1 2" 3', "yes"),
            ('rows a',
             '-5 "nothing"; "" "-"; " " "; "; "\\"" "\\\\"; "(" ")"; "1 2" 3; "a b" "c  d"; () (()); (1 "x y" (2 3)) ()'),
            ('get a "a b"', '"c  d"'), ('get a (1 "x y" (2 3))', "()"), ('get a "\\""', '"\\\\"'), ('get a "1 2"', "3"),
            ("get a 1", "-"), ('get a ""', '"-"'), ('put a "" "-"', "no"), ("mark a", "0"), ('at 0 " "', '"; "'),
            ('take a "a b"', '"c  d"'), ('put a (1 "x y" (2 3)) ("\\"")', "yes"), ("mark a", "1"),
            ("between 0 1", '"a b" "c  d" -; (1 "x y" (2 3)) () ("\\"")'), ('story "a b"', '0 "c  d"; 1 -'),
            ('story (1 "x y" (2 3))', '0 (); 1 ("\\"")'), ('story ""', '0 "-"'), ("begin b", "ok"),
            ('put b "(" ";"', "yes"), ("meet b 1 other", '2; "(" - ";" ")"'),
        )

    def test_names_that_are_words_of_the_desk(self):
        desk = Desk()
        names = WORDS + ["one", "other", "ok", "nothing", "yes", "no"]
        for at, word in enumerate(names):
            self.say(desk, ("begin " + word, "ok"), ("put %s 1 %d" % (word, at), "yes"), ("get %s 1" % word, str(at)))
            self.say(desk, ("rows " + word, "1 %d" % at), ("names", "; ".join(names[:at + 1])),
                     ("mark " + word, str(at)))
        self.say(
            desk, ("meet one 19 one", "25"), ("meet other 19 other", "26; 1 - 20 19"),
            ("meet base 19 base", "27; 1 - 14 19"), ("close close", "ok"), ("take take 1", "6"),
            ("branch close 0", "ok"), ("rows close", "1 0"), ("rows rows", "1 9"), ("back back 7", "ok"),
            ("get back 1", "7"), ("mark mark", "28"),
        )

    def test_numbers(self):
        desk = Desk()
        self.say(desk, ("begin a", "ok"))
        for number in range(12):
            self.say(desk, ("put a 1 %d" % number, "yes"), ("mark a", str(number)))
        self.say(
            desk, ("at 10 1", "10"), ("all 11", "1 11"), ("between 9 10", "1 9 10"), ("base 10 11", "10"),
            ("drop 10", "ok"), ("versions", "0; 1; 2; 3; 4; 5; 6; 7; 8; 9; 11"), ("branch b 11", "ok"),
            ("back b 0", "ok"), ("rows b", "1 0"),
        )

    def test_great_keys(self):
        key, value = "(" + "9" * 60 + ' "' + "\\\\" * 40 + '" (' + "-" + "1" * 60 + "))", '"' + '\\"' * 40 + '"'
        self.say(Desk(), ("begin a", "ok"), ("put a %s %s" % (key, value), "yes"), ("rows a", key + " " + value),
                 ("get a " + key, value), ("put a %s %s" % (value, key), "yes"), ("take a " + value, key))


class RefusedTest(DeskCase):
    def desk(self):
        desk = Desk()
        self.say(desk, ("begin a", "ok"), ("put a 1 2", "yes"), ("mark a", "0"))
        return desk

    def test_what_is_none_of_the_rows(self):
        desk = self.desk()
        for row in NO_ROWS:
            self.refuse(desk, NoRow(0), row)
            self.assert_refused(NoRow(0), Desk().say, row)

    def test_a_word_too_few_or_too_many(self):
        desk = self.desk()
        for row in [
            "begin b", "branch b 0", "back a 0", "close a", "drop 0", "put a 1 3", "take a 1", "get a 1", "at 0 1",
            "rows a",
            "all 0", "mark a", "meet a 0 one", "between 0 0", "base 0 0", "story 1", "names", "versions", "twigs",
        ]:
            words = row.split(" ")
            for at in range(len(words)):
                short = " ".join(words[:at] + words[at + 1:])
                self.refuse(desk, NoRow(0), short)
                self.refuse(desk, NoRow(0), " ".join(words[:at] + ["", *words[at:]]))
            for more in ("", "a", "0", '"a b"', "()", "one"):
                self.refuse(desk, NoRow(0), row + " " + more)
            desk.say(row)
            desk = self.desk()

    def test_numbers_of_nine_and_ten_figures(self):
        desk = self.desk()
        for row in ["drop %s", "all %s", "at %s 1", "branch b %s", "back a %s", "meet a %s one", "between %s 0",
                    "between 0 %s",
                    "base %s 0", "base 0 %s"]:
            self.refuse(desk, NoVersion(999999999), row % "999999999")
            self.refuse(desk, NoVersion(100000000), row % "100000000")
            for number in ("1000000000", "9999999999", "0000000000", "00", "000000000", "012345678"):
                self.refuse(desk, NoRow(0), row % number)

    def test_names_of_twelve_and_thirteen_letters(self):
        desk = self.desk()
        for row in ["rows %s", "mark %s", "close %s", "put %s 1 1", "take %s 1", "get %s 1", "back %s 0",
                    "meet %s 0 one"]:
            self.refuse(desk, NoName("b" * 12), row % ("b" * 12))
            self.refuse(desk, NoRow(0), row % ("b" * 13))
        self.refuse(desk, NoRow(0), "begin " + "b" * 13)
        self.refuse(desk, NoRow(0), "branch %s 0" % ("b" * 13))
        self.say(desk, ("begin " + "b" * 12, "ok"), ("names", "a; " + "b" * 12))

    def test_as_the_book_refuses(self):
        desk = self.desk()
        for wanted, rows in [
            (NoName("b"),
             ["close b", "rows b", "mark b", "put b 1 2", "take b 1", "get b 1", "back b 0", "back b 7", "meet b 0 one",
                           "meet b 7 base"]),
            (Taken("a"), ["begin a", "branch a 0", "branch a 7"]),
            (NoVersion(7),
             ["branch b 7", "back a 7", "drop 7", "at 7 1", "all 7", "meet a 7 other", "between 7 0", "between 0 7",
                            "between 7 8", "base 7 0", "base 0 7", "base 7 8"]),
        ]:
            for row in rows:
                self.refuse(desk, wanted, row)
        self.say(desk, ("drop 0", "ok"))
        for row in ["drop 0", "at 0 1", "all 0", "branch b 0", "back a 0", "meet a 0 one", "between 0 0", "base 0 0"]:
            self.refuse(desk, NoVersion(0), row)

    def test_the_row_goes_first(self):
        desk = self.desk()
        for row in ["put b x 1", "put b 1 x", "take b x", "branch a 0x", "at 7 x", "meet b 7 none", "between 7 x",
                    "back b x"]:
            self.refuse(desk, NoRow(0), row)

    def test_each_sign_in_a_row(self):
        """Names, numbers and first words have no other signs than told."""
        desk = self.desk()
        for place in list(range(0, 256)) + [0x3b1, 0x661, 0xff10]:
            sign = chr(place)
            if not "a" <= sign <= "z":
                self.refuse(desk, NoRow(0), "rows b" + sign)
                self.refuse(desk, NoRow(0), "rows " + sign)
            if not "0" <= sign <= "9":
                self.refuse(desk, NoRow(0), "all 1" + sign)
                self.refuse(desk, NoRow(0), "all " + sign)
            self.refuse(desk, NoRow(0), "names" + sign)
            self.refuse(desk, NoRow(0), sign + "names")


class LongTest(DeskCase):
    """Long runs of drawn rows, some of them changed here and there, against a plain desk."""

    def test_rows(self):
        self.seen = collections.Counter()
        for seed, keys in enumerate([4, 12, 40, 150]):
            self.run_rows(seed, keys, 900)
        for kind in ("NoRow", "NoName", "Taken", "NoVersion", *WORDS):
            self.assertGreater(self.seen[kind], 20, kind)

    def run_rows(self, seed, many, rows):
        chance = random.Random(seed)
        desk, plain = Desk(), PlainDesk(PlainBook(), Book(Shelf()))
        keys = [RISING[at * len(RISING) // many] for at in range(many)] + ODD
        drawn = Drawn(chance, plain.plain, keys, ["a", "put", "names", "c", "nothing", "b"], 15)
        for _ in range(rows):
            row = self.row(chance, drawn)
            try:
                wanted = plain.say(row)
            except TwigError as refusal:
                self.refuse(desk, refusal, row)
                self.seen[type(refusal).__name__] += 1
            else:
                self.say(desk, (row, wanted), ("twigs", plain.say("twigs")))
                self.seen[row.split(" ")[0]] += 1
        self.end(desk)

    def row(self, chance, drawn):
        if chance.random() < 0.03:
            return "twigs"
        row = row_plainly(*drawn.deed(DRAWN))
        for _ in range(chance.choice([0, 0, 0, 0, 0, 1, 2])):
            place = chance.randint(0, len(row))
            sign = chance.choice(["", " ", "0", "1", '"', "(", ")", "-", "a", "\\"])
            row = row[:place] + sign + row[place + chance.randint(0, 1):]
        return row

    def end(self, desk):
        names, versions = self.all_said(desk)[:2]
        self.say(desk, *[("close " + name, "ok") for name in names], *[("drop " + number, "ok") for number in versions])
        self.say(desk, ("twigs", "0"), ("names", "nothing"), ("versions", "nothing"))


if __name__ == "__main__":
    unittest.main()

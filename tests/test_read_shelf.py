"""[91]: a shelf and tables read from rows of text, and the rows that can't stand."""

import collections
import random
import unittest

from audits import MANY, TWO_HIGH, UNEVEN, Picture, grown
from parts import PartCase
from sayings import PlainRows
from trees import ODD, PLACES, PLANS, RISING, place_plainly, planted
from twigmap.errors import NoRow
from twigmap.fills import filled
from twigmap.shelf import Shelf
from twigmap.tables import Table
from twigmap.texts import read_shelf, written

NO_TEXTS = [None, True, 0, 1.5, b"leaf 1 2", [], ["leaf 1 2"], (), ("root -",), {}, object()]

# Six leaves and two stems ahead, to which rows below refer by 0 to 7.
AHEAD = ["leaf 1 1", "leaf 2 2", "leaf 3 3 4 4", "leaf 5 5", "leaf 6 6", "leaf 7 7", "stem 0 1", "stem 2 3"]
BEHIND = ["root 6", "root 7", "root 4", "root 5"]

# Rows that can't stand behind these: their form, leaves, stems.
NO_FORMS = [
    "", " ", "leaf", "leaf ", "stem", "stem ", "root", "root ", "twig 1 2", "Leaf 1 2", "LEAF 1 2", "leaf1 2",
    " leaf 1 2", "leaf  1 2", "leaf 1 2 ", "leaf 1  2", "leaf\t1 2", "leaf 1\t2", "leaf 1 2\n", "\nleaf 1 2",
    "leaf,1,2", "leafs 1 2", " stem 0 1", "stem  0 1", "stem 0 1 ", "stem 0  1", "stem\t0 1", "stem 0,1", "stem0 1",
    "stem 0 1\n", "stems 0 1", "0 1", "1 2", "leaf: 1 2", "# leaf 1 2", "leaf stem 0 1", "stem leaf 1 2", "stem root 0",
    "-", "none", "nothing",
]
NO_LEAVES = [
    "leaf 1", 'leaf "a b"', "leaf 1 1 2", "leaf 1 1 2 2 3", "leaf 1 1 2 2 3 3 4 4 5", "leaf 1 1 2 2 3 3 4 4 5 5",
    "leaf " + " ".join("%d 0" % key for key in range(400)), "leaf 2 0 1 0", "leaf 1 0 1 0", "leaf 1 0 2 0 2 0",
    "leaf 1 0 3 0 2 0", 'leaf "a" 0 1 0', 'leaf () 0 "a" 0', "leaf () 0 1 0", 'leaf "b" 0 "a" 0', "leaf (1) 0 () 0",
    "leaf 1 0 2 0 4 0 3 0", "leaf 01 1", "leaf 1 01", "leaf -0 1", "leaf +1 1", "leaf 1.0 1", "leaf a b", "leaf 'a' 1",
    'leaf "a 1', 'leaf 1 "a', 'leaf "a"1', 'leaf "\\a" 1', "leaf (1 2", "leaf (1  2) 1", "leaf ((((1)))) 1",
    "leaf (1 2 3 4 5) 1", "leaf 1 " + "1" * 61, 'leaf 1 "' + "a" * 41 + '"', "leaf 1 -", "leaf 1 None", "leaf 1 True",
    "leaf 1 [2]", "leaf (1,2) 3", 'leaf "\x7f" 1', "leaf " + "1" * 49000, "leaf " + "(" * 49000, "leaf 1 2;",
]
NO_STEMS = [
    "stem 0", "stem 6", "stem 0 1 2 3 4", "stem 0 1 2 3 4 5", "stem " + " ".join(map(str, range(300))), "stem 00 1",
    "stem 0 01", "stem +0 1", "stem 0 +1", "stem -0 1", "stem 0 -1", "stem 0 1.0", "stem 0 8", "stem 0 9", "stem 0 99",
    "stem 8 9", "stem 0 " + "9" * 49000, "stem 0 -", "stem - -", "stem a b", 'stem "0" "1"', "stem 0 1x",
    "stem (0) (1)", "stem 0 6", "stem 0 7", "stem 6 2", "stem 6 4 5", "stem 1 0", "stem 0 0", "stem 0 2 1", "stem 7 6",
    "stem 6 6", "stem 3 2", "stem 0 1 2 2", "stem 0 ", "stem 0 1 2 3 ", "stem 0 0x1", "stem 0 1_0", "stem 0 \u0661",
    "stem 0 \xb2", "stem 0 1e0",
]
NO_ROOTS = [
    "root", "root ", "root 8", "root 9", "root 99", "root -1", "root --", "root - ", "root  -", "root 0 ", "root  0",
    "root 00", "root 01", "root +0", "root -0", "root 0 1", "root 0 -", "root None", "root a", 'root "0"', "root (0)",
    "Root 0", "root 0\n", "root\t0", "root 1.0", "root " + "1" * 49000, "root \u0661", "root -\n", "roots 0", " root 0",
    "root0", "root-",
]


class ReadCase(PartCase):
    def place(self, key):
        return place_plainly(key)

    def read(self, rows):
        """A shelf as [91] tells; told are it and its tables, and the numbers of the twigs by those of their rows."""
        given, plain = list(rows), PlainRows(rows)
        self.assertIsNone(plain.fault)
        told = read_shelf(rows)
        self.assertEqual(rows, given)
        self.assertEqual((type(told), len(told)), (tuple, 2))
        shelf, tables = told
        self.assertEqual((type(shelf), type(tables), len(tables)), (Shelf, list, len(plain.roots)))
        picture = Picture(shelf)
        twigs = {}
        for table, root in zip(tables, plain.roots):
            self.assertIs(type(table), Table)
            self.assertIs(table.shelf, shelf)
            self.assertEqual(table.root is None, root is None)
            if root is not None:
                self.pair_up(plain, picture, twigs, root, table.root)
                self.assertEqual((table.rows(), table.count()), (plain.rows(root), len(plain.rows(root))))
        self.assertEqual(len({id(table) for table in tables}), len(tables))
        self.assert_just_these(plain, picture, twigs)
        return shelf, tables

    def pair_up(self, plain, picture, twigs, at, number):
        """Each row's twig is one by itself, whatever road leads there."""
        self.assertEqual(twigs.setdefault(at, number), number)
        if isinstance(plain.twigs[at][0], int):
            self.assertEqual(picture.found[number][0], "stem")
            self.assertEqual(len(picture.branches(number)), len(plain.twigs[at]))
            for branch, other in zip(plain.twigs[at], picture.branches(number)):
                self.pair_up(plain, picture, twigs, branch, other)
        else:
            self.assertEqual(picture.found[number], ("leaf", plain.twigs[at]))

    def assert_just_these(self, plain, picture, twigs):
        self.assert_even(picture)
        self.assertEqual(sorted(twigs), list(range(len(plain.twigs))))
        self.assertEqual(sorted(twigs.values()), sorted(picture.found))
        holders = collections.Counter(plain.used)
        roots = collections.Counter(plain.roots)
        for at, number in twigs.items():
            self.assertEqual((picture.holders[number], picture.outside[number]), (holders[at], roots[at]))

    def refuse(self, rows, at):
        given = list(rows)
        self.assertEqual(PlainRows(rows).fault, at, rows)
        self.assert_refused(NoRow(at), read_shelf, rows)
        self.assertEqual(rows, given)

    def read_again(self, rows):
        """Where the rows came from written they are written again so."""
        shelf, tables = self.read(rows)
        self.assertEqual(written(shelf, [table.root for table in tables]), rows)
        return shelf, tables


class WrittenRowsTest(ReadCase):
    def test_nothing(self):
        shelf, tables = self.read_again([])
        self.assertEqual((shelf.many(), tables), (0, []))
        shelf, tables = self.read_again(["root -", "root -"])
        self.assertEqual((shelf.many(), [table.root for table in tables]), (0, [None, None]))

    def test_plans(self):
        for plan in PLANS + UNEVEN + TWO_HIGH[::7]:
            shelf, tree = planted(plan)
            self.read_again(written(shelf, [tree.number]))
            self.read_again(written(shelf, shelf.numbers()))
            self.read_again(written(shelf, [None, tree.number, None, tree.number, tree.leaves()[0]]))

    def test_tables_that_share_much_and_little(self):
        chance = random.Random(91)
        for many in (1, 12, 60, 390):
            shelf = Shelf()
            tables = [Table(shelf), grown(shelf, chance.sample(MANY, many))]
            for _ in range(8):
                tables.append(chance.choice(tables).fork())
                for key in chance.sample(MANY, 4):
                    tables[-1].put(key, chance.choice(ODD))
                    tables[-1].take(chance.choice(MANY))
            chance.shuffle(tables)
            again = self.read_again(written(shelf, [table.root for table in tables]))[1]
            self.assertEqual([table.rows() for table in again], [table.rows() for table in tables])

    def test_keys_and_values_of_all_kinds(self):
        shelf = Shelf()
        keys = sorted(ODD + RISING[::31], key=PLACES.get)
        table = filled(shelf, list(zip(keys, reversed(keys))))
        again = self.read_again(written(shelf, [table.root]))[1]
        self.assertEqual(again[0].rows(), table.rows())

    def test_the_tables_go_on_by_themselves(self):
        shelf = Shelf()
        table = grown(shelf, MANY[:40])
        fork = table.fork()
        fork.put(MANY[3], "new")
        rows = written(shelf, [table.root, fork.root, table.root, fork.root])
        new, tables = self.read_again(rows)
        dicts = [dict(each.rows()) for each in tables]
        chance = random.Random(92)
        for _ in range(150):
            at, key = chance.randrange(4), chance.choice(MANY[:50])
            if chance.random() < 0.6:
                self.put_audited(tables[at], key, at)
                dicts[at][key] = at
            else:
                self.take_audited(tables[at], key)
                dicts[at].pop(key, None)
            self.assertEqual([dict(each.rows()) for each in tables], dicts)
        self.assertEqual(written(shelf, [table.root, fork.root, table.root, fork.root]), rows)
        for each in tables:
            each.clear()
        self.assertEqual(new.many(), 0)

    def test_a_table_that_shares_nothing_is_changed_in_place(self):
        shelf, tables = self.read_again(written(*self.one_table()))
        numbers = shelf.numbers()
        for key in MANY[:30]:
            self.put_audited(tables[0], key, "new")
        self.assertEqual(shelf.numbers(), numbers)

    def one_table(self):
        shelf = Shelf()
        return shelf, [grown(shelf, MANY[:30]).root]


class RowsByHandTest(ReadCase):
    def test_a_leaf(self):
        shelf, tables = self.read(["leaf 1 2", "root 0"])
        self.assertEqual((tables[0].rows(), shelf.many()), ([(1, 2)], 1))
        _, tables = self.read(['leaf -5 "a b" "x" () (1 "\\"") "\\\\" ((())) 0', "root 0"])
        self.assertEqual(tables[0].rows(), [(-5, "a b"), ("x", ()), ((1, '"'), "\\"), ((((),),), 0)])

    def test_other_orders(self):
        for rows in [
            ["leaf 9 9", "leaf 1 1", "stem 1 0", "root 2"],
            ["leaf 4 4", "leaf 3 3", "leaf 2 2", "leaf 1 1", "stem 3 2", "stem 1 0", "stem 4 5", "root 6"],
            ["leaf 1 1", "leaf 2 2", "leaf 3 3", "leaf 4 4", "stem 2 3", "stem 0 1", "stem 5 4", "root 6"],
            ["leaf 3 3", "leaf 1 1", "root 1", "root 0"],
            ["leaf 3 3", "leaf 1 1", "root 1", "root -", "root 0", "root 1"],
        ]:
            shelf, tables = self.read(rows)
            again = written(shelf, [table.root for table in tables])
            self.assertEqual([table.rows() for table in self.read_again(again)[1]], [table.rows() for table in tables])

    def test_twigs_in_several_stems_and_roots(self):
        rows = ["leaf 1 1", "leaf 2 2", "leaf 3 3", "stem 0 1", "stem 1 2", "stem 0 1 2", "stem 0 2", "root 3",
                "root 4"]
        rows += ["root 5", "root 6", "root 0", "root 5", "root 1"]
        shelf, tables = self.read(rows)
        self.assertEqual(shelf.many(), 7)
        self.assertEqual([table.count() for table in tables], [2, 2, 3, 2, 1, 3, 1])
        self.assert_held(shelf, tables[4].root, 4, 1)
        self.assert_held(shelf, tables[2].root, 2, 2)

    def test_rows_alike_are_twigs_of_their_own(self):
        shelf, tables = self.read(["leaf 1 1", "leaf 1 1", "leaf 2 2", "stem 0 2", "stem 1 2", "stem 0 2", "root 3",
                                   "root 4", "root 5"])
        self.assertEqual((shelf.many(), len({table.root for table in tables})), (6, 3))
        shelf, tables = self.read(["leaf 1 1", "leaf 1 1", "root 0", "root 1", "root 0"])
        self.assertEqual(tables[0].root, tables[2].root)
        self.assertNotEqual(tables[0].root, tables[1].root)

    def test_numbers_of_two_and_three_figures(self):
        rows = ["leaf %d 0" % key for key in range(150)] + ["stem %d %d" % (at, at + 1) for at in range(0, 150, 2)]
        rows += ["root %d" % at for at in range(150, 225)]
        shelf, tables = self.read(rows)
        self.assertEqual((shelf.many(), tables[-1].rows()), (225, [(148, 0), (149, 0)]))

    def test_stems_of_two_three_and_four(self):
        for words in ("0 1", "0 1 2", "0 1 2 3"):
            many = len(words.split())
            _, tables = self.read(AHEAD[:many] + ["stem " + words, "root %d" % many])
            self.assertEqual(tables[0].rows(),
                             [(key, key) for key in ([1], [1, 2], [1, 2, 3, 4], [1, 2, 3, 4, 5])[many - 1]])

    def test_each_reading_is_a_shelf_of_its_own(self):
        rows = ["leaf 1 1", "root 0"]
        one, other = self.read(rows), self.read(rows)
        one[1][0].put(1, "new")
        one[1].append("changed")
        self.assertEqual(other[1][0].rows(), [(1, 1)])
        self.assertEqual(len(other[1]), 1)
        rows.append("root 0")
        self.assertEqual(len(self.read(["leaf 1 1", "root 0"])[1]), 1)


class RefusedTest(ReadCase):
    def test_what_is_ahead_can_stand(self):
        self.read(AHEAD + BEHIND)
        self.read(AHEAD + ["stem 6 7", "root 8", "root 4", "root 5"])
        self.read(AHEAD + ["stem 4 5", "root 8", "root 7", "root 6"])

    def test_rows_of_twigs_that_can_not_stand(self):
        for row in NO_TEXTS + NO_FORMS + NO_LEAVES + NO_STEMS:
            self.refuse(AHEAD + [row] + BEHIND, 8)
            self.refuse(AHEAD + [row, "root 8"] + BEHIND, 8)
            self.refuse(AHEAD + [row], 8)
            self.refuse(AHEAD + [row, row, "leaf"], 8)
            self.refuse([row], 0)

    def test_rows_of_roots_that_can_not_stand(self):
        for row in NO_TEXTS + NO_ROOTS:
            self.refuse(AHEAD + [row] + BEHIND, 8)
            self.refuse(AHEAD + BEHIND + [row], 12)
            self.refuse(AHEAD + BEHIND[:2] + [row] + BEHIND[2:], 10)
        for row in NO_FORMS + NO_LEAVES + NO_STEMS:
            self.refuse(AHEAD + BEHIND + [row], 12)

    def test_a_number_of_a_row_that_is_a_root(self):
        self.refuse(["leaf 1 1", "root 0", "root 1"], 2)
        self.refuse(["leaf 1 1", "root -", "root 1"], 2)
        self.refuse(["root 0"], 0)
        self.refuse(["root -", "root 0"], 1)
        self.refuse(["leaf 1 1", "leaf 2 2", "root 0", "stem 0 1", "root 3"], 3)
        self.refuse(["leaf 1 1", "leaf 2 2", "root 0", "stem 1 2"], 3)

    def test_a_number_that_stands_behind(self):
        self.refuse(["stem 1 2", "leaf 1 1", "leaf 2 2", "root 0"], 0)
        self.refuse(["leaf 1 1", "stem 0 2", "leaf 2 2", "root 1"], 1)
        self.refuse(["leaf 1 1", "stem 0 1", "root 1"], 1)
        self.refuse(["leaf 1 1", "leaf 2 2", "stem 0 2", "root 2"], 2)
        self.refuse(["leaf 1 1", "root 2", "leaf 2 2", "root 0"], 1)

    def test_a_twig_behind_a_root(self):
        for row in ("leaf 8 8", "stem 4 5", "leaf 1 1"):
            self.refuse(AHEAD + BEHIND + [row], 12)
            self.refuse(AHEAD + BEHIND + [row, "root 12"], 12)
            self.refuse(AHEAD + ["root -", row] + BEHIND, 9)
            self.refuse(["root -", row, "root 1"], 1)

    def test_unlike_heights_and_keys_that_do_not_rise_further_up(self):
        rows = AHEAD + ["stem 6 7"]
        for row in ("stem 8 6", "stem 6 8", "stem 8 4", "stem 4 8", "stem 8 8", "stem 7 6", "stem 8 7"):
            self.refuse(rows + [row, "root 9", "root 8", "root 4", "root 5"], 9)
        self.refuse(["leaf 1 1 5 5", "leaf 3 3", "stem 0 1", "root 2"], 2)
        self.refuse(["leaf 1 1", "leaf 5 5", "leaf 3 3", "leaf 7 7", "stem 0 1", "stem 2 3", "stem 4 5", "root 6"], 6)

    def test_twigs_in_no_stem_and_no_root(self):
        for left in range(4):
            rows = AHEAD + [row for row in BEHIND if row != BEHIND[left]]
            self.refuse(rows, len(rows))
        self.refuse(["leaf 1 1"], 1)
        self.refuse(["leaf 1 1", "root -"], 2)
        self.refuse(["leaf 1 1", "leaf 1 1", "root 0", "root 0"], 4)
        self.refuse(["leaf 1 1", "leaf 2 2", "stem 0 1"], 3)
        self.refuse(["leaf 1 1", "leaf 2 2", "stem 0 1", "root 0", "root 1", "root -"], 6)

    def test_the_first_of_several(self):
        self.refuse(["leaf 1 1", "leaf 2", "leaf 3 3 3", 7, "root 0"], 1)
        self.refuse(["leaf 1 1", "leaf 5 5", "root 7", "leaf 2"], 2)
        self.refuse(["leaf 1 1", "root 7"], 1)
        self.refuse([None, "leaf"], 0)

    def test_drawn_faults(self):
        """Rows that were written, changed here and there; what can still stand is read."""
        chance = random.Random(93)
        seen = collections.Counter()
        for _ in range(2500):
            rows = self.drawn_rows(chance)
            for _ in range(chance.randint(1, 2)):
                chance.choice(CHANGES)(chance, rows)
            fault = PlainRows(rows).fault
            if fault is None:
                self.read(rows)
            else:
                self.refuse(rows, fault)
            seen["stands" if fault is None else "nobody's" if fault == len(rows) else "refused"] += 1
        self.assertGreater(min(seen.values()), 100, seen)
        self.assertEqual(len(seen), 3)

    def drawn_rows(self, chance):
        shelf, tree = planted(chance.choice(PLANS[4:11] + TWO_HIGH))
        numbers = chance.sample(shelf.numbers(), chance.randint(0, 2))
        return written(shelf, chance.sample([tree.number, None, *numbers], len(numbers) + 2))


def swap(chance, rows):
    one, other = chance.choices(range(len(rows)), k=2)
    rows[one], rows[other] = rows[other], rows[one]


def drop(chance, rows):
    rows.pop(chance.randrange(len(rows)))


def double(chance, rows):
    rows.insert(chance.randint(0, len(rows)), chance.choice(rows))


def change_sign(chance, rows):
    at = chance.randrange(len(rows))
    row = str(rows[at])
    place = chance.randint(0, len(row))
    rows[at] = row[:place] + chance.choice(["", " ", "0", "1", '"', "(", "-", "a"]) + row[place + chance.randint(0, 1):]


def change_number(chance, rows):
    """Another number in a stem or a root."""
    places = [at for at, row in enumerate(rows) if str(row).startswith(("stem ", "root "))]
    if places:
        at = chance.choice(places)
        words = rows[at].split(" ")
        words[chance.randrange(1, len(words))] = str(chance.randrange(len(rows)))
        rows[at] = " ".join(words)


def add_root(chance, rows):
    rows.append("root %d" % chance.randrange(len(rows)))


def no_text(chance, rows):
    rows[chance.randrange(len(rows))] = chance.choice(NO_TEXTS)


CHANGES = [swap, drop, double, change_sign, change_number, change_number, add_root, no_text]


if __name__ == "__main__":
    unittest.main()

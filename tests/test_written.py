"""[90]: what roots reach, written as rows of text."""

import random
import unittest

from audits import MANY, TWO_HIGH, UNEVEN, AuditCase, Picture, grown
from sayings import show_plainly, written_plainly
from trees import MISSING, ODD, PLACES, PLANS, RISING, planted, put, shown
from twigmap.book import Book
from twigmap.errors import NoTwig
from twigmap.fills import filled
from twigmap.shelf import Shelf
from twigmap.texts import written


class WrittenCase(AuditCase):
    def write(self, shelf, roots):
        """Nothing is changed by it, on the shelf or in the list handed in, and what is told is the asker's own."""
        given, before = list(roots), Picture(shelf)
        told = written(shelf, roots)
        self.assertEqual((roots, Picture(shelf)), (given, before))
        self.assertEqual(told, written_plainly(before, roots))
        self.assertIs(type(told), list)
        self.assertEqual({type(row) for row in told} | {str}, {str})
        self.assert_each_once(before, roots, told)
        again = list(told)
        told.append("changed")
        told.reverse()
        self.assertEqual(written(shelf, roots), again)
        return again

    def assert_each_once(self, picture, roots, rows):
        reached = picture.reached_by(root for root in roots if root is not None)
        self.assertEqual(len(rows), len(reached) + len(roots))
        self.assertFalse([row for row in rows[:len(reached)] if row.startswith("root")])
        for at, row in enumerate(rows[:len(reached)]):
            if row.startswith("stem"):
                self.assertLess(max(map(int, row.split()[1:])), at)


class WrittenTest(WrittenCase):
    def test_nothing(self):
        shelf, tree = planted([1, 2])
        for each in (Shelf(), shelf):
            self.assertEqual(self.write(each, []), [])
            self.assertEqual(self.write(each, [None]), ["root -"])
            self.assertEqual(self.write(each, [None, None]), ["root -", "root -"])

    def test_a_leaf(self):
        shelf = Shelf()
        for rows, wanted in [
            ([(1, 2)], "leaf 1 2"), ([(-5, "a b"), ("x", ())], 'leaf -5 "a b" "x" ()'),
            ([(0, 0), (1, 1), (2, 2), (3, 3)], "leaf 0 0 1 1 2 2 3 3"),
            ([('"', "\\"), ((1, "("), (")",))], 'leaf "\\"" "\\\\" (1 "(") (")")'),
            ([("", " ")], 'leaf "" " "'), ([("leaf", "root -")], 'leaf "leaf" "root -"'),
            ([((-5, "a b", ('"',)), 10 ** 59)], 'leaf (-5 "a b" ("\\"")) 1' + "0" * 59),
        ]:
            number = shelf.put_leaf(rows)
            self.assertEqual(self.write(shelf, [number]), [wanted, "root 0"])

    def test_a_tree(self):
        shelf = Shelf()
        tree = put(shelf, [[[1], [2, 3]], [["a000"], [()]]])
        wanted = [
            'leaf 1 ("of" 1)', 'leaf 2 ("of" 2) 3 ("of" 3)', "stem 0 1", 'leaf "a000" ("of" "a000")',
            'leaf () ("of" ())', "stem 3 4", "stem 2 5", "root 6",
        ]
        self.assertEqual(self.write(shelf, [tree.number]), wanted)
        self.assertEqual(self.write(shelf, [None, tree.number]), wanted[:-1] + ["root -", "root 6"])

    def test_the_numbers_of_rows_are_not_those_of_the_shelf(self):
        shelf = Shelf()
        last = shelf.put_leaf([(9, 9)])
        first = shelf.put_leaf([(1, 1)])
        root = shelf.put_stem([first, last])
        self.assertEqual(self.write(shelf, [root]), ["leaf 1 1", "leaf 9 9", "stem 0 1", "root 2"])

    def test_the_twig_with_number_0(self):
        shelf = Shelf()
        self.assertEqual(shelf.put_leaf([(1, 1)]), 0)
        self.assertEqual(self.write(shelf, [0, None, 0]), ["leaf 1 1", "root 0", "root -", "root 0"])

    def test_the_same_root_twice(self):
        shelf, tree = planted([1, 2])
        rows = self.write(shelf, [tree.number] * 3)
        self.assertEqual(rows[3:], ["root 2"] * 3)

    def test_leaves_alike(self):
        """Twigs of their own, though their rows are the same."""
        shelf = Shelf()
        leaves = [shelf.put_leaf([(1, 1)]) for _ in range(3)]
        self.assertEqual(self.write(shelf, leaves), ["leaf 1 1"] * 3 + ["root 0", "root 1", "root 2"])

    def test_twigs_within_others_as_roots(self):
        shelf = Shelf()
        tree = put(shelf, [[[1], [2]], [[3], [4]]])
        inner, leaf = tree.parts[1], tree.parts[1].parts[0]
        rows = ['leaf 3 ("of" 3)', 'leaf 4 ("of" 4)', "stem 0 1"]
        further = ['leaf 1 ("of" 1)', 'leaf 2 ("of" 2)', "stem 3 4", "stem 5 2"]
        self.assertEqual(self.write(shelf, [inner.number, leaf.number]), rows + ["root 2", "root 0"])
        self.assertEqual(
            self.write(shelf, [leaf.number, inner.number, tree.number]),
            rows + further + ["root 0", "root 2", "root 6"])
        self.assertEqual(
            self.write(shelf, [tree.number, leaf.number, inner.number])[-3:], ["root 6", "root 3", "root 5"])

    def test_roots_that_share_twigs(self):
        shelf = Shelf()
        table = filled(shelf, [(key, key) for key in range(8)])
        fork = table.fork()
        fork.put(7, "new")
        self.assertEqual(self.write(shelf, [table.root, fork.root]), [
            "leaf 0 0 1 1 2 2 3 3", "leaf 4 4 5 5 6 6 7 7", "stem 0 1", 'leaf 4 4 5 5 6 6 7 "new"', "stem 0 3",
            "root 2", "root 4",
        ])

    def test_plans(self):
        for plan in PLANS + UNEVEN + TWO_HIGH[::9]:
            shelf, tree = planted(plan)
            self.write(shelf, [tree.number])
            for twig in tree.twigs()[::5]:
                self.write(shelf, [twig.number, None, tree.number])
            self.write(shelf, shelf.numbers())
            self.write(shelf, shelf.numbers()[::-1])

    def test_tables_that_share_much_and_little(self):
        chance = random.Random(90)
        for many in (5, 30, 200):
            shelf = Shelf()
            tables = [grown(shelf, chance.sample(MANY, many))]
            for _ in range(6):
                tables.append(chance.choice(tables).fork())
                for key in chance.sample(MANY, 5):
                    tables[-1].put(key, chance.choice(ODD))
                    tables[-1].take(chance.choice(tables[-1].rows())[0])
            roots = [table.root for table in tables] + [None]
            chance.shuffle(roots)
            self.write(shelf, roots)
            self.write(shelf, roots[:3] * 2)

    def test_keys_and_values_of_all_kinds(self):
        shelf = Shelf()
        keys = sorted(ODD + RISING[::25], key=PLACES.get)
        table = filled(shelf, list(zip(keys, reversed(keys))))
        rows = self.write(shelf, [table.root])
        leaves = [row[5:] for row in rows if row.startswith("leaf")]
        things = [thing for row in zip(keys, reversed(keys)) for thing in row]
        self.assertEqual(" ".join(leaves), " ".join(show_plainly(thing) for thing in things))

    def test_versions_of_a_book(self):
        """What a book holds is written by the numbers that are held."""
        shelf = Shelf()
        book = Book(shelf)
        book.begin("a")
        for key in range(12):
            book.put("a", key, key)
            book.mark("a")
        self.write(shelf, sorted({*Picture(shelf).holds()}))


class RefusedTest(WrittenCase):
    def test_the_first_that_is_not_there(self):
        shelf, tree = planted([[1, 2], [3, 4]])
        gone = put(shelf, [5]).number
        shelf.let_go(gone)
        for missing in [gone, *MISSING]:
            for roots in [
                [missing], [None, missing], [tree.number, missing], [missing, tree.number], [missing, 2999, -7],
                [tree.number, None, missing, -8], [missing] * 2,
            ]:
                given, before = list(roots), shown(shelf)
                self.assert_refused(NoTwig(missing), written, shelf, roots)
                self.assertEqual((roots, shown(shelf)), (given, before))
        self.assert_refused(NoTwig(0), written, Shelf(), [0])


if __name__ == "__main__":
    unittest.main()

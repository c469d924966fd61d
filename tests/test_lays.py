"""[70], [73]: tables laid over one another, and what of a table another one has or lacks."""

import itertools
import random
import unittest

from audits import MANY, UNEVEN, Picture, grown, slender, some
from mixes import MixCase, kin
from parts import spiny
from trees import PLANS, RISING, planted, put, rows_for, shape_of
from twigmap.bonds import bonded
from twigmap.cuts import gapped, span
from twigmap.fills import filled
from twigmap.lays import laid, less, met
from twigmap.shelf import Shelf
from twigmap.tables import Table


class LayCase(MixCase):
    def assert_lays(self, one, other):
        """All three, either way round; what they tell goes at once. Told is the most that came anew."""
        new = [0]
        for first, second in ((one, other), (other, one)):
            for deed in (self.laid_audited, self.met_audited, self.less_audited):
                told = deed(first, second)
                new.append(len(set(told.twigs()) - set(first.twigs()) - set(second.twigs())))
                told.clear()
        return max(new)

    def assert_rows(self, one, other, wanted):
        """Of lists of rows: what laid, met and less have."""
        shelf = Shelf()
        tables = [filled(shelf, rows) for rows in (one, other)]
        self.assertEqual([deed(*tables).rows() for deed in (laid, met, less)], wanted)

    def assert_root(self, deed, one, other, wanted):
        before = Picture(one.shelf)
        told = deed(one, other)
        self.assertEqual(told.root, wanted)
        self.assertIsNot(told, one)
        self.assertIsNot(told, other)
        told.clear()
        self.assertEqual(Picture(one.shelf), before)


class RowsTest(LayCase):
    def test_rows(self):
        one = [(1, "a"), (2, "b"), ("k", "c"), ((), "d")]
        other = [(2, "b"), (3, "x"), ("k", "y")]
        self.assert_rows(one, other, [
            [(1, "a"), (2, "b"), (3, "x"), ("k", "y"), ((), "d")], [(2, "b"), ("k", "c")], [(1, "a"), ((), "d")],
        ])
        self.assert_rows(other, one, [
            [(1, "a"), (2, "b"), (3, "x"), ("k", "c"), ((), "d")], [(2, "b"), ("k", "y")], [(3, "x")],
        ])

    def test_no_rows_on_either_side(self):
        rows = [(1, "a"), ("k", "b")]
        self.assert_rows([], [], [[], [], []])
        self.assert_rows(rows, [], [rows, [], rows])
        self.assert_rows([], rows, [rows, [], []])

    def test_keys_that_are_unlike_in_kind_alone(self):
        self.assert_rows([(1, "a")], [("1", "b"), ((1,), "c")], [
            [(1, "a"), ("1", "b"), ((1,), "c")], [], [(1, "a")],
        ])

    def test_values_that_are_unlike_in_kind_alone(self):
        for one, other in itertools.permutations([1, "1", (1,), ("1",), 0, "", ()], 2):
            self.assert_rows([(7, one)], [(7, other)], [[(7, other)], [(7, one)], []])

    def test_all_keys_or_none_in_both(self):
        one, other = rows_for(MANY[:50]), [(key, "other") for key in MANY[:50]]
        self.assert_rows(one, other, [other, one, []])
        self.assert_rows(one, one, [one, one, []])
        one, other = rows_for(MANY[:80:2]), rows_for(MANY[1:80:2])
        self.assert_rows(one, other, [rows_for(MANY[:80]), [], one])

    def test_the_same_table_twice(self):
        for plan in PLANS[:-1] + UNEVEN:
            shelf, tree = planted(plan)
            table = Table(shelf, tree.number)
            self.assert_lays(table, table)
            self.assertEqual([deed(table, table).rows() for deed in (laid, met, less)], [tree.rows, tree.rows, []])
        table = Table(Shelf())
        self.assertEqual([deed(table, table).root for deed in (laid, met, less)], [None] * 3)

    def test_the_twig_with_number_0(self):
        shelf = Shelf()
        zero, other, empty = filled(shelf, [(1, "a")]), filled(shelf, [(1, "b"), (2, "c")]), Table(shelf)
        self.assertEqual(zero.root, 0)
        for one, more in itertools.product([zero, other, empty], repeat=2):
            self.assert_lays(one, more)

    def test_tables_that_share_all_much_little_and_nothing(self):
        for one, other in itertools.combinations_with_replacement(kin(41), 2):
            self.assert_lays(one, other)

    def test_tables_of_which_an_asker_holds_twigs(self):
        shelf = Shelf()
        table, other = grown(shelf, MANY[:60:2]), filled(shelf, rows_for(MANY[:60:3]))
        for number in some(table.twigs(), 6) + some(other.twigs(), 3):
            shelf.hold(number)
        self.assert_lays(table, other)
        table.put(MANY[1], "new")
        self.assert_lays(table, other)

    def test_the_new_table_goes_on_by_itself(self):
        shelf = Shelf()
        one, other = grown(shelf, MANY[:30]), grown(shelf, MANY[20:50])
        for deed, tables in itertools.product((laid, met, less), [(one, other), (one, one), (other, Table(shelf))]):
            rows = [table.rows() for table in tables]
            told = deed(*tables)
            for key in MANY[:60:2]:
                self.put_audited(told, key, "told")
                self.take_audited(told, key)
            self.assertEqual([table.rows() for table in tables], rows)


class RootTest(LayCase):
    """[73]: where the rows are those of the one, its root stays."""

    def test_laid(self):
        shelf = Shelf()
        table, empty = grown(shelf, MANY[:60]), Table(shelf)
        for other in [
            table, table.fork(), empty, filled(shelf, table.rows()), filled(shelf, table.rows()[10:40:3]),
            span(table, MANY[5], MANY[30]), gapped(table, MANY[5], MANY[30]), grown(shelf, MANY[59:20:-1]),
        ]:
            self.assert_root(laid, table, other, table.root)
            self.assert_root(laid, empty, other, other.root)
        self.assert_root(laid, empty, Table(shelf), None)

    def test_laid_with_one_row_that_is_unlike(self):
        shelf = Shelf()
        table = grown(shelf, MANY[:60])
        for rows in ([(MANY[7], "new")], [(MANY[100], "new")]):
            told = self.laid_audited(table, filled(shelf, rows))
            self.assertNotEqual(told.root, table.root)

    def test_met(self):
        shelf = Shelf()
        table, empty = grown(shelf, MANY[10:60]), Table(shelf)
        for other in [
            table, table.fork(), filled(shelf, table.rows()), grown(shelf, MANY[59:9:-1]), grown(shelf, MANY[:90]),
            filled(shelf, [(key, "other") for key in MANY[10:60]]), filled(shelf, [(key, "other") for key in MANY]),
            bonded(filled(shelf, rows_for(MANY[:10])), table), bonded(table, filled(shelf, rows_for(MANY[60:70]))),
        ]:
            self.assert_root(met, table, other, table.root)
            self.assert_root(met, empty, other, None)
            self.assert_root(met, other, empty, None)

    def test_less(self):
        shelf = Shelf()
        table, empty = grown(shelf, MANY[10:60:2]), Table(shelf)
        for other in [
            empty, filled(shelf, rows_for(MANY[11:60:2])), filled(shelf, rows_for(MANY[:10])),
            filled(shelf, rows_for(MANY[60:])), filled(shelf, [(MANY[11], 1)]), grown(shelf, MANY[:10] + MANY[70:80]),
        ]:
            self.assert_root(less, table, other, table.root)
            self.assert_root(less, other, table, other.root)
            self.assert_root(less, empty, other, None)
            self.assert_root(less, other, other, None)


class BoundTest(LayCase):
    """[70]"""

    def test_one_key_in_trees_by_hand(self):
        for plan in PLANS[:-1] + UNEVEN:
            shelf, tree = planted(plan)
            table = Table(shelf, tree.number)
            for key in some(tree.keys, 8) + some(RISING[::17], 4):
                other = filled(shelf, [(key, "new")])
                self.assert_lays(table, other)
                without = table.fork()
                without.take(key)
                self.assert_lays(table, without)
                for more in (other, without):
                    more.clear()

    def test_high_and_slender_trees(self):
        """One row put in a way that is full all along brings the most; one row gone where all have two branches."""
        most = []
        for plan in [spiny(7, 0), spiny(7, -1), slender(7), slender(8), spiny(5, 0), spiny(5, -1)]:
            shelf = Shelf()
            tree = put(shelf, shape_of(plan, iter(RISING[1:])))
            table = Table(shelf, tree.number)
            for key in [RISING[0], RISING[len(tree.keys) + 1], *some(tree.keys, 3)]:
                other = filled(shelf, [(key, "new")])
                most.append(self.assert_lays(table, other))
                other.clear()
        self.assertGreater(max(most), 16)

    def test_few_and_many_keys_in_small_and_great_tables(self):
        chance = random.Random(42)
        for many in (1, 4, 12, 60, 200):
            shelf = Shelf()
            keys = MANY[:2 * many]
            for table in (grown(shelf, chance.sample(keys, many)), filled(shelf, rows_for(keys[::2]))):
                for size in (1, 2, 5, many // 3, many):
                    some_keys = chance.sample(keys, min(size, len(keys)))
                    other, fork = grown(shelf, some_keys), table.fork()
                    for key in some_keys:
                        fork.put(key, "new")
                    self.assert_lays(table, other)
                    self.assert_lays(table, fork)
                    other.clear()
                    fork.clear()
                table.clear()

    def test_four_hundred_rows(self):
        shelf = Shelf()
        whole, half = filled(shelf, rows_for(MANY)), filled(shelf, [(key, "new") for key in MANY[::2]])
        self.assert_lays(whole, half)
        fork = whole.fork()
        for key in MANY[::3]:
            fork.put(key, "new")
        self.assert_lays(whole, fork)
        self.assertEqual(less(whole, fork).rows(), [])
        self.assertEqual(met(whole, fork).root, whole.root)

    def test_parts_of_a_table(self):
        shelf = Shelf()
        table = grown(shelf, MANY[:200])
        for low, high in [(0, 1), (0, 100), (100, 199), (50, 150), (199, 200), (7, 7)]:
            part, rest = span(table, MANY[low], MANY[high]), gapped(table, MANY[low], MANY[high])
            self.assert_lays(table, part)
            self.assert_lays(table, rest)
            self.assert_lays(part, rest)


if __name__ == "__main__":
    unittest.main()

"""[51], [52]: tables bonded."""

import itertools
import random
import unittest

from audits import MANY, UNEVEN, Picture, grown, slender, some
from parts import PartCase, spiny
from trees import PLANS, RISING, put, rows_for, rows_in, shape_of, shown
from twigmap.bonds import bonded
from twigmap.errors import Overlap
from twigmap.fills import filled
from twigmap.shelf import Shelf
from twigmap.tables import Table

# For each height from 0 to 4: as few branches as may be, and as many as may be along one of the sides.
EDGES = [1, 4] + [plan for height in range(1, 5) for plan in (slender(height), spiny(height, 0), spiny(height, -1))]


def any_plan(chance, height):
    if height == 0:
        return chance.randrange(1, 5)
    return [any_plan(chance, height - 1) for _ in range(chance.choice((2, 2, 2, 3, 4)))]


def planted_pair(plans):
    """Two tables by hand on one shelf, the keys of the one ahead of those of the other."""
    shelf = Shelf()
    keys = iter(RISING)
    return [Table(shelf, put(shelf, shape_of(plan, keys)).number) for plan in plans]


class BondedTest(PartCase):
    def assert_cleared(self, tables):
        shelf = tables[0].shelf
        for table in tables:
            table.clear()
        self.assertEqual(shelf.numbers(), [])

    def bond_by_hand(self, plans):
        one, other = planted_pair(plans)
        told, new = self.bonded_audited(one, other)
        self.assertEqual(told.count(), rows_in(plans[0]) + rows_in(plans[1]))
        self.assert_cleared([told, one, other])
        return new

    def test_trees_by_hand_of_all_heights(self):
        for plans in itertools.product(EDGES, repeat=2):
            self.bond_by_hand(plans)

    def test_the_most_new_twigs(self):
        """Where each stem along the side is full it takes two of each height, and a root over both."""
        for lower, higher in itertools.combinations_with_replacement(range(5), 2):
            self.assertEqual(self.bond_by_hand([spiny(higher, -1), slender(lower)]), 2 * (higher - lower) + 1)
            self.assertEqual(self.bond_by_hand([slender(lower), spiny(higher, 0)]), 2 * (higher - lower) + 1)

    def test_trees_by_hand_as_uneven_as_may_be(self):
        for plans in itertools.product(some(PLANS[:-1], 9) + UNEVEN, repeat=2):
            self.bond_by_hand(plans)

    def test_trees_by_hand_drawn(self):
        chance = random.Random(2)
        for heights in list(itertools.product(range(5), repeat=2)) * 3:
            plans = [any_plan(chance, height) for height in heights]
            if rows_in(plans) <= 400:
                self.bond_by_hand(plans)

    def pairs(self, sizes, make):
        for many, more in itertools.product(sizes, repeat=2):
            if many + more <= 400:
                shelf = Shelf()
                yield make(shelf, MANY[:many]), make(shelf, MANY[many:many + more])

    def bond_pairs(self, sizes, make):
        heights = set()
        for one, other in self.pairs(sizes, make):
            picture = Picture(one.shelf)
            heights.update({picture.height(one.root), picture.height(other.root)})
            told, _ = self.bonded_audited(one, other)
            self.assertEqual(told.count(), one.count() + other.count())
            self.assert_cleared([one, other, told])
        self.assertLessEqual({0, 1, 2, 3, 4}, heights)

    def test_tables_built_by_puts(self):
        self.bond_pairs([1, 4, 5, 9, 20, 40, 90, 150, 260], grown)
        self.bond_pairs([1, 3, 9, 17, 30, 60, 130], lambda shelf, keys: grown(shelf, keys[::-1]))

    def test_tables_built_by_filled(self):
        self.bond_pairs([1, 4, 5, 16, 17, 64, 65, 140, 257], lambda shelf, keys: filled(shelf, rows_for(keys)))

    def test_a_fork_of_each(self):
        """Neither the tables nor what shares twigs with them is changed by what is done to the told one."""
        for plans in [(spiny(3, -1), 1), (1, spiny(3, 0)), (slender(3), slender(2)), ([4, 4], [1, 1])]:
            one, other = planted_pair(plans)
            forks = [one.fork(), other.fork()]
            told, _ = self.bonded_audited(one, other)
            rows = (one.rows(), other.rows())
            for key, _ in told.rows()[::2]:
                self.take_audited(told, key)
            for key, _ in rows[1]:
                self.put_audited(told, key, "new")
            self.assertEqual((one.rows(), other.rows()), rows)
            self.assertEqual((forks[0].rows(), forks[1].rows()), rows)
            self.assert_cleared(forks + [told, one, other])

    def test_one_after_the_other(self):
        for size in (1, 3, 4, 7, 20):
            for turned in (False, True):
                shelf = Shelf()
                parts = [filled(shelf, rows_for(MANY[at:at + size])) for at in range(0, 20 * size, size)]
                whole = Table(shelf)
                for part in parts[::-1] if turned else parts:
                    longer, _ = self.bonded_audited(part, whole) if turned else self.bonded_audited(whole, part)
                    whole.clear()
                    whole = longer
                self.assertEqual(whole.rows(), rows_for(MANY[:20 * size]))
                self.assert_cleared(parts + [whole])


class NoRowsTest(PartCase):
    def test_one_without_rows(self):
        for plan in (1, [1, 1], slender(4), spiny(3, 0)):
            shelf = Shelf()
            table = Table(shelf, put(shelf, shape_of(plan, iter(RISING))).number)
            before = Picture(shelf)
            for one, other in [(Table(shelf), table), (table, Table(shelf))]:
                told, _ = self.bonded_audited(one, other)
                self.assertEqual(told.root, table.root)
                self.assert_held(shelf, table.root, 2, 2)
                told.clear()
            self.assertEqual(Picture(shelf), before)

    def test_neither_with_rows(self):
        shelf = Shelf()
        empty = Table(shelf)
        for other in (Table(shelf), empty):
            told, _ = self.bonded_audited(empty, other)
            self.assertIsNone(told.root)
            told.put(1, 2)
            self.assertEqual((empty.rows(), other.rows()), ([], []))
            told.clear()
        self.assertEqual(shelf.numbers(), [])


class OverlapTest(PartCase):
    def refuse(self, one, other, key):
        rows, roots = (one.rows(), other.rows()), (one.root, other.root)
        self.assert_nothing_changed(one.shelf, Overlap(key), bonded, one, other)
        self.assertEqual((one.rows(), other.rows()), rows)
        self.assertEqual((one.root, other.root), roots)

    def test_keys_that_overlap(self):
        for one, other, key in [
            ([1], [1], 1), ([2], [1], 1), ([1, 5], [3], 3), ([1, 5], [3, 9], 3), ([1, 5], [5, 9], 5), ([3], [1, 9], 1),
            (["a"], [1], 1), ([()], ["~"], "~"), ([1, "a"], ["a", "b"], "a"), ([(1,)], [()], ()), ([""], [""], ""),
            ([(1, 2)], [(1,)], (1,)), (list(range(40)), list(range(39, 80)), 39), (list(range(40)), [0], 0),
            ([60], list(range(60)), 0), (list(range(0, 40, 2)), list(range(1, 40, 2)), 1),
        ]:
            shelf = Shelf()
            self.refuse(grown(shelf, one), grown(shelf, other), key)
            self.refuse(filled(shelf, rows_for(one)), filled(shelf, rows_for(other)), key)

    def test_keys_that_just_do_not(self):
        for one, other in [
            ([1], [2]), ([1], ["a001"]), (["~"], [()]), ([10 ** 59], [""]), ([()], [(0,)]), ([-2], [-1]),
        ]:
            shelf = Shelf()
            tables = [grown(shelf, one), grown(shelf, other)]
            told, new = self.bonded_audited(tables[0], tables[1])
            self.assertEqual((told.rows(), new), (rows_for(one + other), 1))
            self.refuse(tables[1], tables[0], one[0])

    def test_a_table_with_itself_and_with_its_fork(self):
        shelf = Shelf()
        for many in (1, 5, 60):
            table = grown(shelf, MANY[:many])
            for other in (table, table.fork()):
                self.refuse(table, other, MANY[0])

    def test_turned_about(self):
        for plans in [(1, 1), ([2, 3], 4), (slender(4), 2), (1, spiny(3, 0))]:
            one, other = planted_pair(plans)
            before = shown(one.shelf)
            self.refuse(other, one, RISING[0])
            self.assertEqual(shown(one.shelf), before)


if __name__ == "__main__":
    unittest.main()

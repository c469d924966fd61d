"""[51], [53]: tables cut at keys."""

import itertools
import unittest

from audits import MANY, UNEVEN, Picture, grown, slender, some
from parts import PartCase, spiny
from trees import NO_KEYS, PLANS, RISING, asked_keys, planted, put, rows_for, shown
from twigmap.cuts import cut, gapped, span
from twigmap.errors import NoKey
from twigmap.fills import filled
from twigmap.shelf import Shelf
from twigmap.tables import Table

ALL = PLANS + UNEVEN + [slender(4), spiny(4, 0), spiny(4, -1), spiny(3, 0)]


def planted_table(plan):
    """A table by hand among other twigs, and the keys to ask for."""
    shelf, tree = planted(plan)
    return Table(shelf, tree.number), asked_keys(tree)


class CutCase(PartCase):
    def assert_as_before(self, table, before, told):
        for part in told:
            part.clear()
        self.assertEqual(Picture(table.shelf), before)

    def go_on(self, parts, keys):
        for part in parts:
            for key in some(keys, 7):
                self.put_audited(part, key, "new")
            for key in some(keys, 4):
                self.take_audited(part, key)
            part.clear()


class CutTest(CutCase):
    def test_trees_by_hand(self):
        for plan in ALL:
            table, keys = planted_table(plan)
            before = Picture(table.shelf)
            for key in some(keys, 40):
                self.assert_as_before(table, before, self.cut_audited(table, key))

    def test_tables_built_by_puts_and_by_filled(self):
        for many in (1, 4, 5, 30, 120, 400):
            for make in (grown, lambda shelf, keys: filled(shelf, rows_for(keys))):
                table = make(Shelf(), MANY[:many])
                before = Picture(table.shelf)
                for key in some(MANY[:many], 12) + some(RISING, 9):
                    self.assert_as_before(table, before, self.cut_audited(table, key))

    def test_of_no_rows(self):
        shelf, _ = planted([1, 2])
        for key in (0, "", ()):
            for part in self.cut_audited(Table(shelf), key):
                self.assertIsNone(part.root)

    def test_ahead_of_all_and_behind_all(self):
        for plan in ALL:
            table, keys = planted_table(plan)
            least = table.rows()[0][0]
            for key, at in [(keys[0], 1), (least, 1), (keys[-1], 0)]:
                told = self.cut_audited(table, key)
                self.assertEqual(told[at].root, table.root)
                self.assertIsNone(told[1 - at].root)
                self.assert_held(table.shelf, table.root, 2, 2)
                told[at].clear()

    def test_between_two_leaves_none_is_parted(self):
        for plan in ALL:
            table, _ = planted_table(plan)
            picture = Picture(table.shelf)
            leaves = picture.leaves(table.root)
            for at in some(range(len(leaves)), 9):
                told = self.cut_audited(table, picture.found[leaves[at]][1][0][0])
                after = Picture(table.shelf)
                self.assertEqual(after.leaves(told[0].root), leaves[:at])
                self.assertEqual(after.leaves(told[1].root), leaves[at:])
                for part in told:
                    part.clear()

    def test_parts_go_on_by_themselves(self):
        for plan in ([4, 4], [[1, 2], [3, 4, 1]], spiny(3, 0), slender(4)):
            table, keys = planted_table(plan)
            rows, twigs = table.rows(), table.twigs()
            for key in some(keys, 5):
                self.go_on(self.cut_audited(table, key), keys)
            self.assertEqual((table.rows(), table.twigs()), (rows, twigs))

    def test_the_parts_stay_when_the_table_goes(self):
        for at in (1, 50, 199):
            shelf = Shelf()
            table = grown(shelf, MANY[:200])
            one, other = self.cut_audited(table, MANY[at])
            for key in MANY[:200:9]:
                self.take_audited(table, key)
            table.clear()
            self.assertEqual((one.rows(), other.rows()), (rows_for(MANY[:at]), rows_for(MANY[at:200])))
            self.assertEqual(shelf.numbers(), sorted(one.twigs() + other.twigs()))
            one.clear()
            self.assertEqual(shelf.numbers(), other.twigs())

    def test_a_cut_opens_few_twigs(self):
        """Stems are new only along the cut: not promised by a number, but twigs are shared for that."""
        table = filled(Shelf(), rows_for(MANY))
        twigs = set(table.twigs())
        for key in MANY[::37]:
            told = self.cut_audited(table, key)
            for part in told:
                self.assertLess(len(set(part.twigs()) - twigs), 15)
                part.clear()


class SpanAndGappedTest(CutCase):
    def each_pair(self, keys, many):
        """Low ahead of high, alike to it and behind it."""
        return itertools.product(some(keys, many), repeat=2)

    def test_trees_by_hand(self):
        for plan in ALL:
            table, keys = planted_table(plan)
            before = Picture(table.shelf)
            for low, high in self.each_pair(keys, 9):
                told = [self.span_audited(table, low, high), self.gapped_audited(table, low, high)]
                self.assertEqual(told[0].count() + told[1].count(), table.count())
                self.assert_as_before(table, before, told)

    def test_each_pair_of_keys_of_a_few_trees(self):
        for plan in (4, [2, 1], [4, 3], [[2, 1], [1, 3]], slender(3)):
            table, keys = planted_table(plan)
            before = Picture(table.shelf)
            for low, high in itertools.product(keys, repeat=2):
                told = [self.span_audited(table, low, high), self.gapped_audited(table, low, high)]
                self.assert_as_before(table, before, told)

    def test_tables_built_by_puts_and_by_filled(self):
        for many in (1, 5, 120, 400):
            for make in (grown, lambda shelf, keys: filled(shelf, rows_for(keys))):
                table = make(Shelf(), MANY[:many])
                before = Picture(table.shelf)
                for low, high in self.each_pair(MANY[:many] + RISING[-3:], 5):
                    told = [self.span_audited(table, low, high), self.gapped_audited(table, low, high)]
                    self.assert_as_before(table, before, told)

    def test_of_no_rows(self):
        shelf, _ = planted([1, 2])
        for low, high in itertools.product((0, "", ()), repeat=2):
            self.assertIsNone(self.span_audited(Table(shelf), low, high).root)
            self.assertIsNone(self.gapped_audited(Table(shelf), low, high).root)

    def test_all_and_none(self):
        for plan in ALL:
            table, keys = planted_table(plan)
            least = table.rows()[0][0]
            for low, high in [(keys[0], keys[-1]), (least, keys[-1])]:
                self.assertEqual(self.span_audited(table, low, high).root, table.root)
                self.assertIsNone(self.gapped_audited(table, low, high).root)
            for low, high in [(keys[-1], keys[0]), (keys[0], keys[0]), (keys[-1], keys[-1]), (keys[0], least)]:
                self.assertIsNone(self.span_audited(table, low, high).root)
                self.assertEqual(self.gapped_audited(table, low, high).root, table.root)

    def test_no_rows_between_within_a_leaf_and_between_leaves(self):
        for shape in ([1, 9], [[1, 9], [20, 30]], [[1], [9]], [[[1], [9]], [[20], [30]]]):
            shelf = Shelf()
            table = Table(shelf, put(shelf, shape).number)
            for low, high in [(2, 9), (3, 4), (2, 2), (9, 2)]:
                self.assertEqual(self.gapped_audited(table, low, high).root, table.root)
                self.assertIsNone(self.span_audited(table, low, high).root)

    def test_within_one_leaf(self):
        for shape in ([1, 3, 5, 7], [[-3, -1], [1, 3, 5, 7], [9]]):
            shelf = Shelf()
            table = Table(shelf, put(shelf, shape).number)
            for low, high in itertools.combinations(range(9), 2):
                keys = [key for key in (1, 3, 5, 7) if low <= key < high]
                self.assertEqual(self.span_audited(table, low, high).rows(), rows_for(keys))
                self.gapped_audited(table, low, high)

    def test_parts_go_on_by_themselves(self):
        for plan in ([4, 4], [[1, 2], [3, 4, 1]], spiny(3, -1)):
            table, keys = planted_table(plan)
            rows, twigs = table.rows(), table.twigs()
            for low, high in itertools.combinations(some(keys, 4), 2):
                self.go_on([self.span_audited(table, low, high), self.gapped_audited(table, low, high)], keys)
            self.assertEqual((table.rows(), table.twigs()), (rows, twigs))


class RefusalTest(CutCase):
    def refuse(self, table, deed, *keys):
        root = table.root
        self.assert_nothing_changed(table.shelf, NoKey(), deed, table, *keys)
        self.assertEqual(table.root, root)

    def test_no_key(self):
        shelf, tree = planted([[1, 2], [3, 4]])
        for table in (Table(shelf), Table(shelf, tree.number)):
            for wrong in NO_KEYS:
                self.refuse(table, cut, wrong)
                for deed in (span, gapped):
                    for right in (RISING[0], tree.keys[3], RISING[-1]):
                        self.refuse(table, deed, wrong, right)
                        self.refuse(table, deed, right, wrong)
                    self.refuse(table, deed, wrong, wrong)

    def test_nothing_is_left_behind_a_refusal(self):
        shelf = Shelf()
        table = grown(shelf, MANY[:100])
        before = shown(shelf)
        for deed, keys in [(cut, (None,)), (span, (MANY[3], True)), (gapped, (MANY[3], 1.5)), (span, ([], MANY[3]))]:
            self.refuse(table, deed, *keys)
        self.assertEqual(shown(shelf), before)
        table.clear()
        self.assertEqual(shelf.numbers(), [])


if __name__ == "__main__":
    unittest.main()

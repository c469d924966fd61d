"""[40], [42], [43]: taken_from by itself, on roots built by hand."""

import random
import unittest

from audits import AuditCase, Bare, Picture, TWO_HIGH, UNEVEN, slender, some
from trees import MISSING, NO_KEYS, PLANS, asked_keys, planted, put
from twigmap.errors import NoKey, NoTwig, NotHeld
from twigmap.shelf import Shelf
from twigmap.takes import taken_from

ALL = PLANS + UNEVEN


class TakenFromTest(AuditCase):
    def take_on(self, plan, key, prepare):
        """Takes a row from a tree that was made ready by a deed, which tells the root."""
        shelf, tree = planted(plan)
        bare = Bare(shelf, prepare(shelf, tree))
        self.assertTrue(self.take_audited(bare, key))
        return bare

    def test_on_no_rows(self):
        shelf, _ = planted([1, 2])
        for key in (0, "", ()):
            bare = Bare(shelf, None)
            self.assertFalse(self.take_audited(bare, key))
            self.assertIsNone(bare.root)

    def test_the_last_row(self):
        shelf, tree = planted(1)
        bare = Bare(shelf, tree.number)
        self.assertTrue(self.take_audited(bare, tree.keys[0]))
        self.assertIsNone(bare.root)
        self.assertNotIn(tree.number, shelf.numbers())

    def test_the_last_row_of_a_leaf_that_others_hold(self):
        shelf, tree = planted([1, 1])
        leaf = tree.parts[0]
        shelf.hold(leaf.number)
        self.assertIsNone(taken_from(shelf, leaf.number, leaf.keys[0]))
        self.assert_held(shelf, leaf.number, 1, 0)
        self.assertEqual(Picture(shelf).rows(tree.number), tree.rows)

    def test_a_leaf_of_more_rows_keeps_its_number(self):
        for plan in (2, 4, [2, 1], [[1, 1], [3, 1]]):
            shelf, tree = planted(plan)
            leaf = [twig for twig in tree.twigs() if not twig.parts and len(twig.rows) > 1][0]
            self.assertEqual(taken_from(shelf, tree.number, leaf.keys[0]), tree.number)
            self.assertEqual(shelf.look(leaf.number), ("leaf", leaf.rows[1:]))

    def test_a_root_of_two_leaves_leaves_one(self):
        for at in (0, 1):
            shelf, tree = planted([1, 1])
            root = taken_from(shelf, tree.number, tree.keys[at])
            self.assertEqual(root, tree.leaves()[1 - at])
            self.assert_held(shelf, root, 1, 1)
            self.assertNotIn(tree.number, shelf.numbers())

    def test_roots_that_share_nothing(self):
        for plan in ALL + TWO_HIGH:
            _, tree = planted(plan)
            for key in some(tree.keys, 20):
                self.take_on(plan, key, lambda shelf, tree: tree.number)

    def test_roots_held_twice(self):
        def hold_again(shelf, tree):
            shelf.hold(tree.number)
            return tree.number

        for plan in ALL + TWO_HIGH:
            _, tree = planted(plan)
            for key in some(tree.keys, 10):
                bare = self.take_on(plan, key, hold_again)
                self.assertEqual(Picture(bare.shelf).rows(tree.number), tree.rows)

    def test_each_twig_held_by_itself(self):
        for plan in ALL + some(TWO_HIGH, 40):
            _, tree = planted(plan)
            for at in some(range(len(tree.twigs())), 9):
                def hold_one(shelf, tree):
                    shelf.hold(tree.twigs()[at].number)
                    return tree.number

                for key in some(tree.keys, 5) + some(tree.twigs()[at].keys, 3):
                    self.take_on(plan, key, hold_one)

    def test_several_twigs_held(self):
        chance = random.Random(5)
        for plan in UNEVEN * 12 + some(TWO_HIGH, 60):
            _, tree = planted(plan)
            drawn = chance.sample(range(len(tree.twigs())), chance.randrange(2, 6))

            def hold_some(shelf, tree):
                for at in drawn:
                    shelf.hold(tree.twigs()[at].number)
                return tree.number

            self.take_on(plan, chance.choice(tree.keys), hold_some)

    def test_twigs_within_a_greater_tree(self):
        for plan in ALL:
            _, tree = planted(plan)
            for at in some(range(1, len(tree.twigs())), 12):
                def hold_within(shelf, tree):
                    shelf.hold(tree.twigs()[at].number)
                    return tree.twigs()[at].number

                for key in some(tree.twigs()[at].keys, 6):
                    bare = self.take_on(plan, key, hold_within)
                    self.assertEqual(Picture(bare.shelf).rows(tree.number), tree.rows)

    def test_as_high_as_may_be(self):
        for key in some(planted(slender(8))[1].keys, 5):
            shelf, tree = planted(slender(8))
            bare = Bare(shelf, tree.number)
            fork = Bare(shelf, tree.number)
            shelf.hold(tree.number)
            for one in (fork, bare):
                self.assertTrue(self.take_audited(one, key))
                self.assertEqual(shelf.label(one.root)[0], 7)

    def test_row_by_row_to_the_end(self):
        chance = random.Random(3)
        for plan in ALL + some(TWO_HIGH, 15) + [slender(5), slender(8)]:
            shelf, tree = planted(plan)
            before = shelf.many()
            bare = Bare(shelf, tree.number)
            for key in chance.sample(tree.keys, len(tree.keys)):
                self.assertTrue(self.take_audited(bare, key))
            self.assertIsNone(bare.root)
            self.assertEqual(shelf.many(), before - len(tree.twigs()))

    def test_keys_that_are_not_there_change_nothing(self):
        for plan in ALL:
            shelf, tree = planted(plan)
            for key in some([key for key in asked_keys(tree) if key not in tree.keys], 20):
                self.assertFalse(self.take_audited(Bare(shelf, tree.number), key))

    def test_refusals(self):
        shelf, tree = planted([[1, 2], [3, 1]])
        gone = put(shelf, [5]).number
        shelf.let_go(gone)
        for key in NO_KEYS:
            for root in [None, tree.number]:
                self.assert_nothing_changed(shelf, NoKey(), taken_from, shelf, root, key)
        for key in NO_KEYS + [1] + tree.keys:
            for part in tree.twigs()[1:]:
                self.assert_nothing_changed(shelf, NotHeld(part.number), taken_from, shelf, part.number, key)
            for missing in MISSING + [gone]:
                self.assert_nothing_changed(shelf, NoTwig(missing), taken_from, shelf, missing, key)
        self.assert_refused(NoTwig(0), taken_from, Shelf(), 0, 1)


if __name__ == "__main__":
    unittest.main()

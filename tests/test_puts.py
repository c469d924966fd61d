"""[40], [42], [43]: put_in by itself, on roots built by hand."""

import unittest

from audits import AuditCase, Bare, Picture, UNEVEN, slender, some
from trees import MISSING, NO_KEYS, PLANS, asked_keys, planted, put
from twigmap.errors import NoKey, NoTwig, NotHeld
from twigmap.puts import put_in
from twigmap.shelf import Shelf

ALL = PLANS + UNEVEN


class PutInTest(AuditCase):
    def put_on(self, plan, key, prepare):
        """Puts a row into a tree that was made ready by a deed, which tells the root."""
        shelf, tree = planted(plan)
        bare = Bare(shelf, prepare(shelf, tree))
        self.assertTrue(self.put_audited(bare, key, "new"))
        self.assertEqual(shelf.outside(bare.root), 1)
        return bare

    def test_on_no_rows(self):
        for key in (0, -1, "", "a001", (), ("c", ())):
            for value in (0, "", (), "a"):
                shelf = Shelf()
                put(shelf, [[1], [2, 3]])
                bare = Bare(shelf, None)
                self.put_audited(bare, key, value)
                self.assertEqual(shelf.look(bare.root), ("leaf", [(key, value)]))
                self.assert_held(shelf, bare.root, 1, 1)

    def test_roots_that_share_nothing(self):
        for plan in ALL:
            _, tree = planted(plan)
            for key in some(asked_keys(tree), 60):
                bare = self.put_on(plan, key, lambda shelf, tree: tree.number)
                if key in tree.keys:
                    self.assertEqual(bare.root, tree.number)

    def test_room_is_used_in_place(self):
        shelf, tree = planted([[1, 2], [3, 1]])
        before = shelf.numbers()
        for key in asked_keys(tree)[1:4]:
            self.assertEqual(put_in(shelf, tree.number, key, "new"), tree.number)
        self.assertEqual(shelf.numbers(), before)

    def test_a_full_leaf_brings_one_twig_and_a_full_root_another_root(self):
        shelf = Shelf()
        tree = put(shelf, [1, 2, 4, 5])
        root = put_in(shelf, tree.number, 3, "new")
        self.assertNotEqual(root, tree.number)
        self.assertEqual(shelf.label(root), (1, 1, 5, 5))
        self.assertIn(tree.number, shelf.look(root)[1])
        self.assertEqual(shelf.many(), 3)
        self.assert_held(shelf, root, 1, 1)
        self.assert_held(shelf, tree.number, 1, 0)

    def test_all_full(self):
        for place in (0, 1, 100, 511, 512):
            shelf, tree = planted([[[4] * 4] * 4] * 4)
            bare = Bare(shelf, tree.number)
            many = shelf.many()
            self.put_audited(bare, asked_keys(tree)[place], "new")
            grown = 0 if bare.root == tree.number else 5
            self.assertEqual(shelf.many(), many + grown)
            self.assertEqual(grown == 0, asked_keys(tree)[place] in tree.keys)

    def test_as_high_as_may_be(self):
        for key in some(asked_keys(planted(slender(8))[1]), 6):
            shelf, tree = planted(slender(8))
            bare = Bare(shelf, tree.number)
            fork = Bare(shelf, tree.number)
            shelf.hold(tree.number)
            for one in (fork, bare):
                self.assertTrue(self.put_audited(one, key, "new"))
                self.assertEqual(shelf.label(one.root)[0], 8)

    def test_roots_held_twice(self):
        def hold_again(shelf, tree):
            shelf.hold(tree.number)
            return tree.number

        for plan in ALL:
            shelf, tree = planted(plan)
            for key in some(asked_keys(tree), 25):
                bare = self.put_on(plan, key, hold_again)
                self.assertNotEqual(bare.root, tree.number)
                self.assertEqual(bare.shelf.outside(tree.number), 1)

    def test_each_twig_held_by_itself(self):
        for plan in ALL:
            _, tree = planted(plan)
            for at in some(range(len(tree.twigs())), 12):
                def hold_one(shelf, tree):
                    shelf.hold(tree.twigs()[at].number)
                    return tree.number

                for key in some(asked_keys(tree), 12) + some(asked_keys(tree.twigs()[at]), 7):
                    self.put_on(plan, key, hold_one)

    def test_twigs_within_a_greater_tree(self):
        for plan in ALL:
            _, tree = planted(plan)
            for at in some(range(1, len(tree.twigs())), 10):
                def hold_within(shelf, tree):
                    shelf.hold(tree.twigs()[at].number)
                    return tree.twigs()[at].number

                for key in some(asked_keys(tree), 6) + some(asked_keys(tree.twigs()[at]), 7):
                    bare = self.put_on(plan, key, hold_within)
                    self.assertEqual(Picture(bare.shelf).rows(tree.number), tree.rows)

    def test_the_same_row_changes_nothing(self):
        for plan in ALL:
            shelf, tree = planted(plan)
            for key, value in some(tree.rows, 15):
                self.assertFalse(self.put_audited(Bare(shelf, tree.number), key, value))

    def test_values_of_another_kind_are_others(self):
        for value, other in [(1, "1"), ("", ()), (0, ""), ((1,), ("1",)), ((), ((),)), ((0,), 0)]:
            shelf = Shelf()
            root = shelf.put_leaf([(1, value)])
            self.assertTrue(self.put_audited(Bare(shelf, root), 1, other))

    def test_refusals(self):
        shelf, tree = planted([[1, 2], [3, 1]])
        gone = put(shelf, [5]).number
        shelf.let_go(gone)
        wrong = [(key, 1) for key in NO_KEYS] + [(1, value) for value in NO_KEYS] + [(key, key) for key in NO_KEYS]
        for key, value in wrong:
            for root in [None, tree.number]:
                self.assert_nothing_changed(shelf, NoKey(), put_in, shelf, root, key, value)
        for key, value in wrong + [(1, 2)]:
            for part in tree.twigs()[1:]:
                self.assert_nothing_changed(shelf, NotHeld(part.number), put_in, shelf, part.number, key, value)
            for missing in MISSING + [gone]:
                self.assert_nothing_changed(shelf, NoTwig(missing), put_in, shelf, missing, key, value)
        key, value = tree.rows[0]
        unheld = tree.leaves()[0]
        self.assert_nothing_changed(shelf, NotHeld(unheld), put_in, shelf, unheld, key, value)
        self.assert_refused(NoTwig(0), put_in, Shelf(), 0, 1, 1)

    def test_refusals_on_shared_and_on_full_twigs(self):
        """Nothing is copied or split ahead of a refusal."""
        for plan in (4, [4, 4], [[4] * 4] * 4):
            shelf, tree = planted(plan)
            for _ in range(2):
                for key in some(asked_keys(tree), 9):
                    for wrong in NO_KEYS:
                        self.assert_nothing_changed(shelf, NoKey(), put_in, shelf, tree.number, key, wrong)
                shelf.hold(tree.number)


if __name__ == "__main__":
    unittest.main()

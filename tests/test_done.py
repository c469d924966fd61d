"""[63], [42]: patches done to tables."""

import itertools
import random
import unittest

from audits import MANY, TWO_HIGH, UNEVEN, Bare, Picture, grown, slender, some
from mixes import MixCase, in_order, kin, unlike_plainly
from parts import spiny
from trees import PLANS, RISING, planted, rows_for
from twigmap.differs import unlike
from twigmap.errors import Stale
from twigmap.fills import filled
from twigmap.patches import behind, done, turned
from twigmap.shelf import Shelf
from twigmap.tables import Table


class ByPatch(Bare):
    """A table at which each deed is done by a patch of one row."""

    def __init__(self, table):
        Bare.__init__(self, table.shelf, table.root)
        self.table = table

    def put(self, key, value):
        self.give(key, [value])

    def take(self, key):
        self.give(key, [])

    def give(self, key, new):
        old = self.table.side(key)
        done(self.table, [(key, old, new)] if old != new else [])
        self.root = self.table.root


class DoneCase(MixCase):
    def mixed_patch(self, rows, keys, chance):
        """Of so many keys: rows taken, changed and put."""
        wanted = dict(rows)
        for key in keys:
            if key in wanted and chance.random() < 0.5:
                wanted.pop(key)
            else:
                wanted[key] = ("new", chance.randrange(3))
        return unlike_plainly(rows, wanted)

    def shared_ways(self, table):
        """Nobody else holds the table, a fork does, an asker holds a twig of it, or both."""
        yield []
        fork = table.fork()
        yield [fork]
        held = some(table.twigs(), 3)[-1:]
        for number in held:
            table.shelf.hold(number)
        yield [fork]
        fork.clear()
        yield []
        for number in held:
            table.shelf.let_go(number)


class DoneTest(DoneCase):
    def test_puts_changes_and_takes(self):
        shelf = Shelf()
        table = filled(shelf, [(1, "a"), (2, "b"), ("k", "c")])
        self.assertEqual(done(table, [(0, [], ["z"]), (1, ["a"], ["A"]), ("k", ["c"], []), ((), [], [()])]), 4)
        self.assertEqual(table.rows(), [(0, "z"), (1, "A"), (2, "b"), ((), ())])
        self.assertEqual(done(table, []), 0)
        self.assertEqual(table.rows(), [(0, "z"), (1, "A"), (2, "b"), ((), ())])

    def test_a_table_without_rows(self):
        shelf = Shelf()
        table = Table(shelf)
        self.assertTrue(self.done_audited(table, []))
        self.assertEqual((table.root, shelf.many()), (None, 0))
        self.assertTrue(self.done_audited(table, [(key, [], [("of", key)]) for key in MANY[:60]]))
        self.assertEqual(table.rows(), rows_for(MANY[:60]))
        self.assertTrue(self.done_audited(table, [(key, [("of", key)], []) for key in MANY[:60]]))
        self.assertEqual((table.root, table.rows(), shelf.many()), (None, [], 0))

    def test_no_rows_in_the_patch(self):
        for plan in PLANS[:-1]:
            shelf, tree = planted(plan)
            table = Table(shelf, tree.number)
            before = Picture(shelf)
            self.assertEqual(done(table, []), 0)
            self.assertEqual((table.root, Picture(shelf)), (tree.number, before))

    def test_all_rows_at_once(self):
        """All are taken, changed, or changed with others between, of all sorts of trees, alone and shared."""
        for plan in some(PLANS[:-1], 7) + some(UNEVEN, 3):
            for change in ("take", "change", "more"):
                shelf, tree = planted(plan)
                table = Table(shelf, tree.number)
                patch = [(key, [value], [] if change == "take" else ["new"]) for key, value in tree.rows]
                if change == "more":
                    patch = unlike_plainly(dict(tree.rows), {key: "new" for key in tree.keys + some(RISING, 30)})
                for others in self.shared_ways(table):
                    self.assertTrue(self.done_audited(table, patch))
                    self.assertTrue(self.done_audited(table, turned(patch)))
                    self.assertEqual(table.rows(), tree.rows)
                    self.assertEqual([fork.rows() for fork in others], [tree.rows] * len(others))

    def test_some_rows_of_grown_tables(self):
        chance = random.Random(21)
        for many in (1, 4, 5, 17, 60, 200):
            shelf = Shelf()
            table = grown(shelf, chance.sample(MANY[:many * 2], many))
            for changes in (1, 2, 6, 25):
                for _ in self.shared_ways(table):
                    keys = chance.sample(MANY[:max(many * 2, 30)], changes)
                    patch = self.mixed_patch(self.dict_of(table), keys, chance)
                    self.assertTrue(self.done_audited(table, patch))

    def test_four_hundred_rows(self):
        shelf = Shelf()
        table = filled(shelf, rows_for(MANY))
        fork = table.fork()
        patch = [(key, [("of", key)], ["new"] if at % 2 else []) for at, key in enumerate(MANY)]
        self.assertEqual(done(table, patch), 400)
        self.assertEqual(table.rows(), [(key, "new") for key in MANY[1::2]])
        self.assertEqual(fork.rows(), rows_for(MANY))
        self.assert_even(Picture(shelf))
        self.assertEqual(done(table, turned(patch)), 400)
        self.assertEqual(table.rows(), rows_for(MANY))
        self.assertEqual(shelf.numbers(), sorted({*table.twigs(), *fork.twigs()}))

    def test_a_table_that_shares_nothing(self):
        """[43]: puts bring as many twigs as there are more, and leave all that were there; takes bring none."""
        for table in [grown(Shelf(), MANY[::3]), filled(Shelf(), rows_for(MANY[::3]))]:
            before = set(table.twigs())
            patch = [(key, [], ["new"]) for key in some(MANY[1::3], 40)]
            done(table, patch)
            self.assertLessEqual(before, set(table.twigs()))
            self.assertEqual(table.shelf.numbers(), table.twigs())
            before = set(table.twigs())
            done(table, [(key, table.side(key), ["newer"]) for key in MANY if table.side(key)])
            self.assertEqual(set(table.twigs()), before)
            done(table, [(key, [value], []) for key, value in table.rows()[30:90]])
            self.assertLess(set(table.twigs()), before)
            self.assertEqual(table.shelf.numbers(), table.twigs())

    def test_each_row_is_a_deed(self):
        """[42], of patches of one row."""
        plans = [1, 4, [1, 1], [4, 4], [[1, 2], [3, 4, 1]], slender(4), spiny(3, 0), spiny(3, -1)]
        for plan in plans + some(TWO_HIGH, 8):
            for forked in (False, True):
                shelf, tree = planted(plan)
                table = Table(shelf, tree.number)
                fork = table.fork() if forked else Table(shelf)
                for key in some(tree.keys, 6):
                    self.put_audited(ByPatch(table), key, ("of", key))
                    self.put_audited(ByPatch(table), key, "new")
                    self.take_audited(ByPatch(table), key)
                    self.take_audited(ByPatch(table), key)
                    self.put_audited(ByPatch(table), key, ("of", key))
                for key in some(RISING[1::7], 6):
                    self.put_audited(ByPatch(table), key, "more")
                self.assertEqual(fork.rows(), tree.rows if forked else [])

    def test_the_twig_with_number_0(self):
        table = Table(Shelf())
        done(table, [(1, [], ["a"])])
        self.assertEqual((table.root, table.rows()), (0, [(1, "a")]))
        self.assertTrue(self.done_audited(table, [(0, [], ["b"]), (1, ["a"], [])]))
        self.assertEqual(table.rows(), [(0, "b")])

    def test_the_patch_changed_behind_the_call(self):
        table = Table(Shelf())
        patch = [(1, [], ["a"]), (2, [], [("b",)])]
        done(table, patch)
        patch[0][2][0] = "changed"
        patch[1][2].clear()
        patch.clear()
        self.assertEqual(table.rows(), [(1, "a"), (2, ("b",))])


class StaleTest(DoneCase):
    def test_the_first_key_whose_side_is_another(self):
        table = filled(Shelf(), [(1, "a"), (2, "b"), ("k", "c")])
        for key, patch in [
            (1, [(1, [], ["A"])]), (1, [(1, ["b"], ["A"])]), (3, [(3, ["x"], [])]), (3, [(3, ["x"], ["y"])]),
            (2, [(1, ["a"], []), (2, [], ["B"]), ("k", ["x"], [])]), ("k", [(1, ["a"], []), ("k", ["C"], [])]),
            (0, [(0, ["z"], []), (1, ["b"], [])]), ((), [(2, ["b"], ["a"]), ((), [()], [])]),
        ]:
            self.assert_nothing_changed(table.shelf, Stale(key), done, table, patch)
            self.assertEqual(table.rows(), [(1, "a"), (2, "b"), ("k", "c")])

    def test_a_table_without_rows(self):
        table = Table(Shelf())
        self.assertFalse(self.done_audited(table, [(1, ["a"], [])]))
        self.assertFalse(self.done_audited(table, [(0, [], ["a"]), (1, ["a"], [])]))
        self.assertEqual((table.root, table.shelf.many()), (None, 0))

    def test_sides_that_are_unlike_in_kind_alone(self):
        for one, other in itertools.permutations([1, "1", (1,), ("1",), 0, "", ()], 2):
            table = filled(Shelf(), [(7, one)])
            self.assert_nothing_changed(table.shelf, Stale(7), done, table, [(7, [other], [])])
            self.assertEqual(table.rows(), [(7, one)])

    def test_keys_that_are_unlike_in_kind_alone(self):
        table = filled(Shelf(), [(1, "a"), ("1", "b"), ((1,), "c")])
        self.assert_refused(Stale("1"), done, table, [(1, ["a"], []), ("1", ["a"], []), ((1,), ["a"], [])])
        self.assertEqual(done(table, [(1, ["a"], []), ("1", ["b"], []), ((1,), ["c"], [])]), 3)

    def test_each_row_of_a_patch_stale(self):
        """Wherever the wrong rows stand, nothing of the others is done, alone and shared."""
        chance = random.Random(22)
        for plan in [3, [1, 1], [4, 4, 4, 4], [[1, 2], [3, 4, 1]], slender(4), spiny(3, 0), spiny(3, -1), UNEVEN[-1]]:
            shelf, tree = planted(plan)
            table = Table(shelf, tree.number)
            for _ in self.shared_ways(table):
                keys = in_order({*some(tree.keys, 5), *some(RISING[1::11], 3)})
                right = self.mixed_patch(self.dict_of(table), keys, chance)
                for at in range(len(right)):
                    patch = list(right)
                    patch[at] = (right[at][0], [("wrong",)], right[at][2])
                    self.assertFalse(self.done_audited(table, patch))
                    for later in range(at + 1, len(right)):
                        patch[later] = (right[later][0], [("wrong",)], right[later][2])
                        self.assert_refused(Stale(right[at][0]), done, table, patch)
                self.assertEqual(table.rows(), tree.rows)

    def test_a_patch_done_twice(self):
        table = filled(Shelf(), rows_for(MANY[:50]))
        patch = [(key, [("of", key)], ["new"]) for key in MANY[10:20]] + [(MANY[70], [], [1])]
        self.assertTrue(self.done_audited(table, patch))
        self.assertFalse(self.done_audited(table, patch))
        self.assert_refused(Stale(MANY[10]), done, table, patch)


class LeadTest(DoneCase):
    """done of what unlike tells, of the same turned, and of patches one behind the other."""

    def test_unlike_leads_to_the_rows_of_the_other(self):
        tables = kin(23)
        shelf = tables[0].shelf
        for one, other in itertools.product(tables, repeat=2):
            patch = unlike(shelf, one.root, other.root)
            table = one.fork()
            self.assertEqual(done(table, patch), len(patch))
            self.assertEqual(table.rows(), other.rows())
            self.assertEqual(unlike(shelf, other.root, table.root), [])
            self.assertEqual(done(table, turned(patch)), len(patch))
            self.assertEqual(table.rows(), one.rows())
            table.clear()
        self.assert_even(Picture(shelf))
        self.assertEqual(Picture(shelf).holds(), sorted(table.root for table in tables if table.root is not None))

    def test_unlike_done_to_a_table_with_the_same_rows(self):
        """Also where these stand in other leaves."""
        tables = kin(24)
        shelf = tables[0].shelf
        for one, other in itertools.product(tables, repeat=2):
            table = filled(shelf, one.rows())
            done(table, unlike(shelf, one.root, other.root))
            self.assertEqual(table.rows(), other.rows())
            table.clear()

    def test_behind_does_what_both_do(self):
        tables = kin(25)
        shelf = tables[0].shelf
        for first, second, third in some(list(itertools.permutations(tables, 3)), 400):
            patches = [unlike(shelf, first.root, second.root), unlike(shelf, second.root, third.root)]
            both = self.behind_audited(*patches)
            self.assertEqual(both, unlike(shelf, first.root, third.root))
            table, other = first.fork(), first.fork()
            done(table, both)
            for patch in patches:
                done(other, patch)
            self.assertEqual(table.rows(), third.rows())
            self.assertEqual(other.rows(), third.rows())
            table.clear()
            other.clear()

    def test_told_patches_changed_by_the_asker(self):
        shelf = Shelf()
        table = grown(shelf, MANY[:40])
        fork = table.fork()
        fork.put(MANY[3], "new")
        fork.take(MANY[30])
        patch = unlike(shelf, table.root, fork.root)
        before = Picture(shelf)
        for told in (patch, turned(patch), behind(patch, [])):
            self.assertEqual(len(told), 2)
            for row in told:
                row[1].append("changed")
                row[2].append("changed")
            told.clear()
        self.assertEqual(Picture(shelf), before)
        self.assertEqual(done(table, unlike(shelf, table.root, fork.root)), 2)
        self.assertEqual(table.rows(), fork.rows())


if __name__ == "__main__":
    unittest.main()

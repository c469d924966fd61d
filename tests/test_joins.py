"""[70] to [72]: three tables joined row by row, with their clashes, and what of their twigs is kept."""

import itertools
import random
import unittest

from audits import MANY, UNEVEN, Picture, grown, slender, some
from mixes import MixCase, in_order, in_rows, kin
from parts import spiny
from trees import PLANS, RISING, planted, put, rows_for, shape_of
from twigmap.cuts import span
from twigmap.fills import filled
from twigmap.joins import joined
from twigmap.shelf import Shelf
from twigmap.tables import Table

KEEPS = ("base", "one", "other")
SIDES = [[], [1], [2], ["1"]]

# Each of three sides, of base, one and other, that a key may have.
CASES = list(itertools.product(SIDES, repeat=3))


def rows_of_cases(keys, which):
    return [(key, *case[which]) for key, case in zip(keys, CASES) if case[which]]


def changed(table, rows, wanted):
    """The table with the rows that are wanted, by puts and takes alone."""
    for key in dict(rows):
        if key not in dict(wanted):
            table.take(key)
    for key, value in wanted:
        table.put(key, value)
    return table


def cleared(*tables):
    for table in tables:
        table.clear()


class CasesTest(MixCase):
    def assert_joined(self, rows, wanted, clashes, keep):
        """Of tables that share nothing, and of forks."""
        shelf = Shelf()
        tables = [filled(shelf, part) for part in rows]
        told = self.joined_both_ways(*tables, keep)
        self.assertEqual((told[0].rows(), told[1]), (wanted, clashes))
        base = tables[0]
        forks = [changed(base.fork(), rows[0], part) for part in rows[1:]]
        told = self.joined_both_ways(base, *forks, keep)
        self.assertEqual((told[0].rows(), told[1]), (wanted, clashes))

    def test_nothing_changed(self):
        for keep in KEEPS:
            self.assert_joined([[(1, "a")], [(1, "a")], [(1, "a")]], [(1, "a")], [], keep)
            self.assert_joined([[], [], []], [], [], keep)

    def test_one_of_both_changed(self):
        for keep in KEEPS:
            self.assert_joined([[(1, "a")], [(1, "b")], [(1, "a")]], [(1, "b")], [], keep)
            self.assert_joined([[(1, "a")], [(1, "a")], [(1, "c")]], [(1, "c")], [], keep)
            self.assert_joined([[(1, "a")], [], [(1, "a")]], [], [], keep)
            self.assert_joined([[(1, "a")], [(1, "a")], []], [], [], keep)
            self.assert_joined([[], [(1, "b")], []], [(1, "b")], [], keep)
            self.assert_joined([[], [], [(1, "c")]], [(1, "c")], [], keep)

    def test_both_changed_alike(self):
        for keep in KEEPS:
            self.assert_joined([[(1, "a")], [(1, "b")], [(1, "b")]], [(1, "b")], [], keep)
            self.assert_joined([[(1, "a")], [], []], [], [], keep)
            self.assert_joined([[], [(1, "b")], [(1, "b")]], [(1, "b")], [], keep)

    def test_clashes(self):
        rows = [[(1, "a")], [(1, "b")], [(1, "c")]]
        clashes = [(1, ["a"], ["b"], ["c"])]
        self.assert_joined(rows, [(1, "a")], clashes, "base")
        self.assert_joined(rows, [(1, "b")], clashes, "one")
        self.assert_joined(rows, [(1, "c")], clashes, "other")

    def test_clashes_with_sides_that_are_not_there(self):
        rows = [[(1, "a")], [], [(1, "c")]]
        clashes = [(1, ["a"], [], ["c"])]
        self.assert_joined(rows, [(1, "a")], clashes, "base")
        self.assert_joined(rows, [], clashes, "one")
        self.assert_joined(rows, [(1, "c")], clashes, "other")
        rows = [[], [(1, "b")], [(1, "c")]]
        clashes = [(1, [], ["b"], ["c"])]
        self.assert_joined(rows, [], clashes, "base")
        self.assert_joined(rows, [(1, "b")], clashes, "one")
        self.assert_joined(rows, [(1, "c")], clashes, "other")

    def test_sides_that_are_unlike_in_kind_alone(self):
        rows = [[(1, 5)], [(1, "5")], [(1, (5,))]]
        self.assert_joined(rows, [(1, "5")], [(1, [5], ["5"], [(5,)])], "one")
        self.assert_joined([[(1, 5)], [(1, 5)], [(1, "5")]], [(1, "5")], [], "one")

    def test_keys_that_are_unlike_in_kind_alone(self):
        shelf = Shelf()
        tables = [filled(shelf, [(key, "x")]) for key in (1, "1", (1,))]
        for base, one, other in itertools.permutations(tables):
            told, clashes = joined(base, one, other, "base")
            rows = [row for table in tables if table in (one, other) for row in table.rows()]
            self.assertEqual((told.rows(), clashes), (rows, []))

    def test_keys_of_clashes_rise(self):
        keys = [-3, 0, "", "a005", (), (1,), ((), 3)]
        for keep, wanted in zip(KEEPS, "abc"):
            rows = [[(key, word) for key in keys] for word in "abc"]
            clashes = [(key, ["a"], ["b"], ["c"]) for key in keys]
            self.assert_joined(rows, [(key, wanted) for key in keys], clashes, keep)

    def test_each_case_by_itself(self):
        for case in CASES:
            for keep in KEEPS:
                shelf = Shelf()
                tables = [filled(shelf, [(7, value) for value in side]) for side in case]
                told = self.joined_both_ways(*tables, keep)
                clash = len({repr(side) for side in case}) == 3
                self.assertEqual(told[1], [(7, *case)] if clash else [])

    def test_each_case_in_one_table(self):
        """All of them at once, at keys in and out of order, with and without rows beside that nobody changed."""
        chance = random.Random(31)
        for beside in ([], rows_for(MANY[1::2])):
            for keys in (MANY[:128:2], MANY[::6], [MANY[2 * at] for at in chance.sample(range(200), 64)]):
                rows = [in_rows(dict(beside + rows_of_cases(keys, which))) for which in range(3)]
                for keep in KEEPS:
                    shelf = Shelf()
                    tables = [filled(shelf, part) for part in rows]
                    told = self.joined_both_ways(*tables, keep)
                    self.assertEqual(len(told[1]), len([case for case in CASES if len({*map(repr, case)}) == 3]))
                    forks = [changed(tables[0].fork(), rows[0], part) for part in rows[1:]]
                    self.assertEqual(self.joined_both_ways(tables[0], *forks, keep)[1], told[1])


class TablesTest(MixCase):
    """Tables of all sorts, whatever they share."""

    def test_three_of_all_sorts(self):
        tables = kin(32)
        for at, (base, one, other) in enumerate(some(list(itertools.product(tables, repeat=3)), 600)):
            told = self.joined_both_ways(base, one, other, KEEPS[at % 3])
            told[0].clear()

    def test_one_table_twice_or_three_times(self):
        for at, (table, other) in enumerate(itertools.permutations(kin(32), 2)):
            told = [self.joined_audited(*three, KEEPS[at % 3]) for three in [
                (table, table, table), (table, table, other), (table, other, table), (other, table, table),
            ]]
            self.assertEqual([clashes for _, clashes in told], [[]] * 4)
            self.assertEqual([new.root for new, _ in told], [table.root, other.root, other.root, table.root])
            cleared(*[new for new, _ in told])

    def test_the_twig_with_number_0(self):
        shelf = Shelf()
        zero = filled(shelf, [(1, "a")])
        empty, more = Table(shelf), filled(shelf, [(1, "b")])
        self.assertEqual(zero.root, 0)
        for three in itertools.product([zero, empty, more], repeat=3):
            for keep in KEEPS:
                self.joined_both_ways(*three, keep)[0].clear()

    def test_tables_of_which_an_asker_holds_twigs(self):
        tables = kin(32)
        shelf = tables[0].shelf
        for table in tables[1:]:
            for number in some(table.twigs(), 4):
                shelf.hold(number)
        for base, one, other in some(list(itertools.permutations(tables, 3)), 60):
            self.joined_both_ways(base, one, other, "other")[0].clear()

    def test_the_new_table_goes_on_by_itself(self):
        shelf = Shelf()
        base = grown(shelf, MANY[:30])
        one, other = base.fork(), base.fork()
        one.put(MANY[3], "one")
        other.put(MANY[20], "other")
        for three in [(base, one, other), (base, base, other), (base, one, base), (base, one, one), (base, base, base)]:
            rows = [table.rows() for table in three]
            told = joined(*three, "base")[0]
            for key in MANY[:40]:
                self.put_audited(told, key, "told")
            for key in MANY[:40]:
                self.take_audited(told, key)
            self.assertEqual([table.rows() for table in three], rows)

    def test_told_clashes_changed_by_the_asker(self):
        shelf = Shelf()
        base, one, other = [filled(shelf, [(1, word), (2, word)]) for word in "abc"]
        wanted = [(1, ["a"], ["b"], ["c"]), (2, ["a"], ["b"], ["c"])]
        for keep in KEEPS:
            table, clashes = joined(base, one, other, keep)
            rows = table.rows()
            before = Picture(shelf)
            for clash in clashes:
                for side in clash[1:]:
                    side.append("changed")
            clashes.clear()
            self.assertEqual((table.rows(), Picture(shelf)), (rows, before))
            self.assertEqual(joined(base, one, other, keep)[1], wanted)


class RootTest(MixCase):
    """[72]"""

    def test_which_goes_first(self):
        shelf = Shelf()
        table, other = grown(shelf, MANY[:20]), grown(shelf, MANY[10:40])
        empty = Table(shelf)
        for three, wanted in [
            ((table, table, other), other), ((table, other, table), other), ((other, table, table), table),
            ((table, table.fork(), other), other), ((table, other, table.fork()), other),
            ((other, table, table.fork()), table), ((table, table.fork(), table.fork()), table),
            ((empty, Table(shelf), other), other), ((empty, other, Table(shelf)), other),
            ((table, empty, Table(shelf)), empty), ((empty, Table(shelf), Table(shelf)), empty),
            ((table, table, empty), empty), ((table, empty, table), empty), ((empty, table, table), table),
        ]:
            for keep in KEEPS:
                before = Picture(shelf)
                told, clashes = joined(*three, keep)
                self.assertEqual((told.root, clashes), (wanted.root, []))
                self.assertNotIn(told, three)
                told.clear()
                self.assertEqual(Picture(shelf), before)
                self.joined_audited(*three, keep)[0].clear()

    def test_the_same_rows_below_other_roots(self):
        """The roots are not the same here, so what counts is the bound: no row is unlike, no twig is new."""
        shelf = Shelf()
        tables = [grown(shelf, MANY[:50]), grown(shelf, MANY[49::-1]), filled(shelf, rows_for(MANY[:50]))]
        for three in itertools.permutations(tables, 3):
            told = self.joined_both_ways(*three, "base")
            self.assertIn(told[0].root, [three[1].root, three[2].root])
            told[0].clear()

    def test_base_and_one_have_the_same_rows_below_other_roots(self):
        shelf = Shelf()
        base, one = grown(shelf, MANY[:50]), filled(shelf, rows_for(MANY[:50]))
        other = base.fork()
        other.put(MANY[7], "new")
        for three in [(base, one, other), (one, base, other), (base, other, one), (one, other, base)]:
            told = self.joined_both_ways(*three, "base")
            self.assertEqual((told[0].rows(), told[1]), (other.rows(), []))


class BoundTest(MixCase):
    """[70]"""

    def join_changes(self, table, keys, others):
        """One has changed these keys, the other those; told is how many twigs are new."""
        one, other = table.fork(), table.fork()
        for fork, part in ((one, keys), (other, others)):
            for key in part:
                if fork.side(key):
                    fork.take(key)
                else:
                    fork.put(key, "new")
        new = []
        for three in [(table, one, other), (other, one, table), (one, table, other), (other, table, one)]:
            told = self.joined_both_ways(*three, "other")[0]
            new.append(len(set(told.twigs()) - set(three[1].twigs()) - set(three[2].twigs())))
            told.clear()
        cleared(one, other)
        return max(new)

    def test_few_and_many_keys_in_small_and_great_tables(self):
        chance = random.Random(33)
        for many in (0, 1, 4, 12, 60, 250):
            shelf = Shelf()
            keys = MANY[:max(2 * many, 8)]
            for table in (grown(shelf, chance.sample(keys, many)), filled(shelf, rows_for(keys[::2][:many]))):
                for one, other in [(0, 0), (1, 0), (0, 1), (1, 1), (1, 8), (8, 1), (5, 5), (many // 2, many // 3)]:
                    sizes = [min(size, len(keys) // 2) for size in (one, other)]
                    self.join_changes(table, *[chance.sample(keys, size) for size in sizes])
                table.clear()

    def test_high_and_slender_trees(self):
        """A row put in a way that is full all along, and such as are taken where all twigs have but two branches."""
        most = 0
        for plan in [spiny(7, 0), spiny(7, -1), slender(7), slender(8), spiny(4, 0), spiny(4, -1)]:
            shelf = Shelf()
            apart = 1 if plan in (spiny(7, 0), spiny(7, -1)) else 2
            tree = put(shelf, shape_of(plan, iter(RISING[1::apart])))
            table = Table(shelf, tree.number)
            for one, other in [(RISING[0], RISING[-1]), (tree.keys[0], tree.keys[-1]), (RISING[0], tree.keys[20])]:
                most = max(most, self.join_changes(table, [one], [other]))
        self.assertGreater(most, 8)

    def test_trees_by_hand(self):
        for plan in PLANS[:-1] + UNEVEN:
            shelf, tree = planted(plan)
            table = Table(shelf, tree.number)
            for key in some(tree.keys, 5):
                self.join_changes(table, [key], [tree.keys[0]])
                self.join_changes(table, tree.keys, [key])
                self.join_changes(table, some(RISING[1::13], 5), [key])

    def test_great_tables_that_share_nothing(self):
        shelf = Shelf()
        rows = [rows_for(MANY[:390:2]), rows_for(MANY[1:390:2]), [(key, "new") for key in MANY[100:300]]]
        tables = [filled(shelf, part) for part in rows]
        for at, three in enumerate(itertools.permutations(tables, 3)):
            self.joined_both_ways(*three, KEEPS[at % 3])[0].clear()

    def test_four_hundred_rows(self):
        shelf = Shelf()
        base = filled(shelf, rows_for(MANY))
        one, other = base.fork(), base.fork()
        for key in MANY[::2]:
            one.put(key, "one")
        for key in MANY[::3]:
            other.take(key)
        for keep in KEEPS:
            told = self.joined_both_ways(base, one, other, keep)
            self.assertEqual([clash[0] for clash in told[1]], in_order({*MANY[::2]} & {*MANY[::3]}))
            told[0].clear()

    def test_far_ends(self):
        """Tables that lie side by side, so that the new one has the rows of both."""
        shelf = Shelf()
        base = grown(shelf, MANY[:200])
        parts = [span(base, MANY[low], MANY[high]) for low, high in [(0, 100), (100, 199), (50, 150), (0, 1), (3, 3)]]
        for three in itertools.permutations(parts + [base], 3):
            self.joined_audited(*three, "one")[0].clear()


if __name__ == "__main__":
    unittest.main()

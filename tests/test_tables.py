"""[40] to [43]: tables, one deed after the other."""

import random
import unittest

from audits import MANY, AuditCase, NotingShelf, Picture, grown
from trees import MISSING, NO_KEYS, PLACES, RISING, planted, put, rows_for, shown
from twigmap.errors import NoKey, NoTwig, NotHeld
from twigmap.shelf import Shelf
from twigmap.tables import Table

KINDS = [-5, 0, 7, "", "a000", "a001", "~", (), (1,), (50, 2), ("c", ()), ((), 3)]


class MakingTest(AuditCase):
    def test_of_a_shelf_alone(self):
        shelf = Shelf()
        table = Table(shelf)
        self.assertIs(table.shelf, shelf)
        self.assertIsNone(table.root)
        self.assertEqual((table.rows(), table.twigs(), table.count(), table.side(1)), ([], [], 0, []))
        self.assertEqual(shelf.numbers(), [])
        self.assertIsNone(Table(shelf, None).root)

    def test_of_a_shelf_and_a_root(self):
        for plan in (1, 4, [2, 3], [[1, 2], [3, 4, 1]]):
            shelf, tree = planted(plan)
            before = shown(shelf)
            table = Table(shelf, tree.number)
            self.assertEqual(shown(shelf), before)
            self.assertIs(table.shelf, shelf)
            self.assertEqual(table.root, tree.number)
            self.assertEqual((table.rows(), table.twigs()), (tree.rows, tree.numbers()))
            table.clear()
            self.assertNotIn(tree.number, shelf.numbers())

    def test_of_the_twig_with_number_0(self):
        shelf = Shelf()
        table = Table(shelf, shelf.put_leaf([(1, "a")]))
        self.assertEqual((table.root, table.count(), table.side(1), table.twigs()), (0, 1, ["a"], [0]))
        fork = table.fork()
        self.assert_held(shelf, 0, 2, 2)
        table.clear()
        self.assert_held(shelf, 0, 1, 1)
        self.assertEqual(fork.take(1), ["a"])
        self.assertEqual(shelf.many(), 0)

    def test_one_of_several_holds_is_taken_over(self):
        shelf = Shelf()
        number = put(shelf, [1, 2]).number
        shelf.hold(number)
        shelf.hold(number)
        tables = [Table(shelf, number), Table(shelf, number)]
        self.assert_held(shelf, number, 3, 3)
        for table in tables:
            self.put_audited(table, 3, "new")
        self.assert_held(shelf, number, 1, 1)
        self.assertEqual(shelf.look(number), ("leaf", rows_for([1, 2])))

    def test_of_a_twig_within_a_tree(self):
        shelf, tree = planted([[1, 2], [3, 4]])
        part = tree.parts[1]
        shelf.hold(part.number)
        table = Table(shelf, part.number)
        self.assert_held(shelf, part.number, 2, 1)
        self.take_audited(table, part.keys[0])
        self.assert_held(shelf, part.number, 1, 0)
        self.assertEqual(Picture(shelf).rows(tree.number), tree.rows)

    def test_refusals(self):
        shelf, tree = planted([[1, 2], [3, 4]])
        gone = put(shelf, [5]).number
        shelf.let_go(gone)
        for missing in MISSING + [gone]:
            self.assert_nothing_changed(shelf, NoTwig(missing), Table, shelf, missing)
        for part in tree.twigs()[1:]:
            self.assert_nothing_changed(shelf, NotHeld(part.number), Table, shelf, part.number)
        self.assert_refused(NoTwig(0), Table, Shelf(), 0)

    def test_a_table_that_nobody_has_holds_its_root(self):
        shelf = Shelf()
        number = grown(shelf, range(10)).root
        self.assert_held(shelf, number, 1, 1)
        self.assertEqual(len(Picture(shelf).rows(number)), 10)


class ForkAndClearTest(AuditCase):
    def test_forks_have_a_hold_each(self):
        shelf = NotingShelf()
        table = grown(shelf, range(30))
        before = Picture(shelf)
        shelf.puts = []
        forks = [table]
        for many in range(2, 8):
            forks.append(forks[many // 2].fork() if many > 3 else table.fork())
            self.assert_held(shelf, table.root, many, many)
        after = Picture(shelf)
        self.assertEqual((after.found, after.labels), (before.found, before.labels))
        for fork in forks:
            self.assertIsInstance(fork, Table)
            self.assertIs(fork.shelf, shelf)
            self.assertEqual((fork.root, fork.rows(), fork.twigs()), (table.root, table.rows(), table.twigs()))
        for left in range(6, 0, -1):
            self.assertIsNone(forks[left].clear())
            self.assertIsNone(forks[left].root)
            self.assert_held(shelf, table.root, left, left)
        self.assertEqual(Picture(shelf), before)
        table.clear()
        self.assertEqual(shelf.numbers(), [])
        self.assertEqual(shelf.puts, [])

    def test_forks_and_clears_of_no_rows(self):
        shelf = NotingShelf()
        table = Table(shelf)
        fork = table.fork()
        self.assertIsNot(fork, table)
        self.assertIsNone(fork.root)
        self.assertIsNone(table.clear())
        self.assertIsNone(table.clear())
        self.assertIsNone(table.root)
        fork.put(1, 2)
        self.assertEqual((table.rows(), fork.rows()), ([], [(1, 2)]))
        self.assertEqual(len(shelf.puts), 1)

    def test_a_fork_goes_on_by_itself(self):
        shelf = Shelf()
        table = grown(shelf, range(0, 40, 2))
        fork = table.fork()
        rows, twigs = table.rows(), table.twigs()
        for key in range(40):
            self.put_audited(fork, key, "new")
        self.assertEqual((table.rows(), table.twigs()), (rows, twigs))
        for key in range(40):
            self.take_audited(table, key)
        self.assertEqual(fork.rows(), [(key, "new") for key in range(40)])

    def test_a_cleared_table_can_be_filled_again(self):
        shelf = Shelf()
        table = grown(shelf, range(20))
        fork = table.fork()
        table.clear()
        self.assertEqual((table.rows(), table.twigs(), table.count(), table.side(3)), ([], [], 0, []))
        self.assertEqual(table.take(3), [])
        self.assertTrue(self.put_audited(table, 3, "new"))
        self.assertEqual((table.rows(), fork.count()), ([(3, "new")], 20))

    def test_what_the_asker_holds_stays_behind_clear(self):
        shelf = Shelf()
        table = grown(shelf, range(60))
        fork = table.fork()
        fork.put(100, 1)
        held = table.twigs()[3]
        shelf.hold(held)
        own = shelf.put_leaf([(1, 1)])
        before = Picture(shelf)
        table.clear()
        fork.clear()
        after = Picture(shelf)
        self.assertEqual(set(after.found), set(before.reach(held)) | {own})
        for number in after.found:
            self.assertEqual(after.found[number], before.found[number])
        self.assertEqual(after.holds(), sorted([held, own]))


class DeedsTest(AuditCase):
    def assert_tells(self, table, rows):
        wanted = sorted(rows.items(), key=lambda row: PLACES[row[0]])
        self.assertEqual(table.rows(), wanted)
        self.assertEqual(table.count(), len(wanted))
        self.assertEqual(table.twigs(), sorted(Picture(table.shelf).reach(table.root)))
        self.assertEqual(table.root is None, wanted == [])

    def run_up_and_down(self, up, down):
        shelf = Shelf()
        table = Table(shelf)
        rows = {}
        self.assert_tells(table, rows)
        for place, key in enumerate(up):
            self.assertTrue(self.put_audited(table, key, (place, key) if place % 2 else "v"))
            rows[key] = (place, key) if place % 2 else "v"
        self.assert_tells(table, rows)
        for key in RISING:
            self.assertEqual(table.side(key), [rows[key]] if key in rows else [])
        for key in down:
            self.assertTrue(self.take_audited(table, key))
            rows.pop(key)
        self.assert_tells(table, rows)
        self.assertEqual(shelf.numbers(), [])
        self.assertTrue(self.put_audited(table, 0, 0))

    def test_up_rising_and_down_rising(self):
        self.run_up_and_down(MANY, MANY)

    def test_up_falling_and_down_falling(self):
        self.run_up_and_down(MANY[::-1], MANY[::-1])

    def test_up_rising_and_down_falling(self):
        self.run_up_and_down(MANY[:150], MANY[149::-1])

    def test_up_and_down_mixed(self):
        for seed, many in enumerate((400, 30, 9)):
            chance = random.Random(seed)
            keys = chance.sample(MANY, many)
            self.run_up_and_down(keys, chance.sample(keys, many))

    def test_keys_and_values_of_all_kinds(self):
        table = Table(Shelf())
        rows = {}
        for key in KINDS:
            for value in KINDS:
                self.assertIs(table.put(key, value), True)
                self.assertIs(table.put(key, value), False)
                self.assertEqual(table.side(key), [value])
                rows[key] = value
        self.assert_tells(table, rows)
        for key in KINDS:
            self.assertEqual(table.take(key), [rows.pop(key)])
            self.assertEqual(table.take(key), [])
            self.assertEqual(table.side(key), [])
            self.assert_tells(table, rows)

    def test_keys_that_look_alike_are_several(self):
        table = Table(Shelf())
        for key in (1, "1", (1,), ("1",), ((1,),)):
            self.assertIs(table.put(key, 1), True)
        self.assertEqual(table.rows(), [(key, 1) for key in (1, "1", (1,), ("1",), ((1,),))])
        self.assertIs(table.put(1, "1"), True)
        self.assertEqual(table.take("1"), [1])
        self.assertEqual(table.side(1), ["1"])

    def test_deeds_that_change_no_row(self):
        shelf = Shelf()
        table = grown(shelf, MANY[::8])
        forks = [table.fork(), table.fork()]
        forks[0].put(MANY[0], "new")
        for one in [table] + forks:
            for key, value in one.rows():
                self.assertFalse(self.put_audited(one, key, value))
            for key in MANY[1::8]:
                self.assertFalse(self.take_audited(one, key))

    def test_lists_are_the_askers_own(self):
        shelf = Shelf()
        table = grown(shelf, range(30))
        before = Picture(shelf)
        for deed in (table.rows, table.twigs, lambda: table.side(3), lambda: table.side(99), lambda: table.take(99)):
            wanted = deed()
            told = deed()
            self.assertIs(type(told), list)
            told.append("changed")
            told.reverse()
            self.assertEqual(deed(), wanted)
        table.take(7).append(1)
        table.put(7, ("of", 7))
        self.assertEqual(Picture(shelf).rows(table.root), before.rows(table.root))
        self.assertEqual(table.side(7), [("of", 7)])

    def test_refusals(self):
        shelf = Shelf()
        full = grown(shelf, range(30))
        for table in (full, full.fork(), Table(shelf)):
            root = table.root
            for wrong in NO_KEYS:
                self.assert_nothing_changed(shelf, NoKey(), table.put, wrong, 1)
                self.assert_nothing_changed(shelf, NoKey(), table.put, 1, wrong)
                self.assert_nothing_changed(shelf, NoKey(), table.put, wrong, wrong)
                self.assert_nothing_changed(shelf, NoKey(), table.take, wrong)
                self.assert_nothing_changed(shelf, NoKey(), table.side, wrong)
                self.assertEqual(table.root, root)


class SharingTest(AuditCase):
    """[42] and [43] over tables that share all, some and none of their twigs."""

    def test_tables_that_share_nothing(self):
        shelf = Shelf()
        tables = [grown(shelf, MANY[start::12]) for start in (0, 5)]
        for table in tables:
            for key in MANY[3::24]:
                many, before = shelf.many(), set(table.twigs())
                self.put_audited(table, key, "new")
                self.assertLessEqual(before, set(table.twigs()))
                self.assertEqual(len(table.twigs()) - len(before), shelf.many() - many)
            for key in MANY[::24] + MANY[3::24]:
                before = set(table.twigs())
                self.take_audited(table, key)
                self.assertLessEqual(set(table.twigs()), before)

    def test_a_put_into_a_fork_leaves_the_way_alone_behind(self):
        shelf = Shelf()
        table = grown(shelf, MANY[::3])
        for key in MANY[1::6]:
            fork = table.fork()
            way = Picture(shelf).way(table.root, key)
            self.put_audited(fork, key, "new")
            self.assertEqual(set(table.twigs()) - set(fork.twigs()), set(way))
            new = set(fork.twigs())
            self.put_audited(fork, key, "newer")
            self.assertEqual(set(fork.twigs()), new)
            fork.clear()
        self.assertEqual(shelf.numbers(), table.twigs())

    def test_a_take_from_a_fork(self):
        shelf = Shelf()
        table = grown(shelf, MANY[::3])
        rows, twigs = table.rows(), table.twigs()
        for start in range(4):
            fork = table.fork()
            for key in MANY[3 * start::12]:
                self.assertTrue(self.take_audited(fork, key))
            fork.clear()
        self.assertEqual((table.rows(), table.twigs(), shelf.numbers()), (rows, twigs, twigs))

    def test_holds_of_the_askers_own_on_each_twig(self):
        for at in range(len(grown(Shelf(), MANY[::14]).twigs())):
            shelf = Shelf()
            table = grown(shelf, MANY[::14])
            held = table.twigs()[at]
            shelf.hold(held)
            before = Picture(shelf)
            for key in MANY[::42]:
                self.take_audited(table, key)
            for key in MANY[::42]:
                self.put_audited(table, key, "new")
            after = Picture(shelf)
            for number in before.reach(held):
                self.assertEqual(after.found[number], before.found[number])
            shelf.let_go(held)
            self.assertEqual(shelf.numbers(), table.twigs())

    def test_holds_that_were_let_go_are_no_holders(self):
        shelf = Shelf()
        table = grown(shelf, range(40))
        table.fork().clear()
        for number in table.twigs():
            shelf.hold(number)
            shelf.let_go(number)
        twigs = set(table.twigs())
        for key in range(0, 40, 3):
            self.put_audited(table, key, "new")
        self.assertEqual(set(table.twigs()), twigs)


if __name__ == "__main__":
    unittest.main()

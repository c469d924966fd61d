"""[50], [51]: tables filled at once."""

import random
import unittest

from audits import MANY, Picture, grown, some
from parts import PartCase
from trees import NO_KEYS, PLACES, RISING, planted, put, rows_for, shown
from twigmap.errors import NoKey, NotRising
from twigmap.fills import filled
from twigmap.shelf import Shelf


class FilledTest(PartCase):
    def test_each_number_of_rows(self):
        for many in range(401):
            shelf = Shelf()
            table = self.filled_audited(shelf, rows_for(MANY[:many]))
            self.assertEqual(table.rows(), rows_for(MANY[:many]))
            self.assertEqual(table.count(), many)
            table.clear()
            self.assertEqual(shelf.numbers(), [])

    def test_keys_of_each_kind(self):
        chance = random.Random(1)
        for many in [1, 2, 5, 17, 60, 130, 257, 400] * 2:
            keys = sorted(chance.sample(RISING, many), key=PLACES.get)
            rows = [(key, chance.choice(RISING)) for key in keys]
            table = self.filled_audited(Shelf(), rows)
            for key in some(RISING, 50):
                self.assertEqual(table.side(key), [value for one, value in rows if one == key])

    def test_of_no_rows(self):
        shelf, tree = planted([[1, 2], [3, 4]])
        before = shown(shelf)
        table = self.filled_audited(shelf, [])
        self.assertIsNone(table.root)
        self.assertEqual(shown(shelf), before)
        self.assertTrue(self.put_audited(table, 1, 2))

    def test_among_other_tables(self):
        shelf, tree = planted([[1, 2], [3, 4]])
        tables = [self.filled_audited(shelf, rows_for(MANY[start::7])) for start in range(7)]
        tables.append(grown(shelf, MANY[::9]))
        tables.append(tables[2].fork())
        for table in tables:
            for key in MANY[::50]:
                self.put_audited(table, key, "new")
            for key in MANY[1::50]:
                self.take_audited(table, key)
        for table in tables:
            table.clear()
        self.assertEqual(Picture(shelf).rows(tree.number), tree.rows)
        self.assertEqual(shown(shelf), shown(planted([[1, 2], [3, 4]])[0]))

    def test_rows_alike_to_those_of_another_table_are_twigs_of_their_own(self):
        shelf = Shelf()
        tables = [self.filled_audited(shelf, rows_for(MANY[:30])) for _ in range(3)]
        self.assertEqual(len({number for table in tables for number in table.twigs()}), shelf.many())
        self.assertEqual(shelf.many(), 3 * len(tables[0].twigs()))

    def test_the_list_handed_in_stays_and_is_not_kept(self):
        for many in (1, 4, 5, 40):
            shelf = Shelf()
            rows = rows_for(MANY[:many])
            table = filled(shelf, rows)
            self.assertEqual(rows, rows_for(MANY[:many]))
            before = shown(shelf)
            rows[0] = ("~", "changed")
            rows.append(("changed", 1))
            rows.reverse()
            self.assertEqual(shown(shelf), before)
            self.assertEqual(table.rows(), rows_for(MANY[:many]))
            told = table.rows()
            told.clear()
            self.assertEqual(table.rows(), rows_for(MANY[:many]))


class RefusalTest(PartCase):
    def test_no_key_at_any_place(self):
        shelf, _ = planted([[1, 2], [3, 4]])
        for many in (1, 2, 4, 5, 9, 40):
            for at in some(range(many), 6):
                for wrong in NO_KEYS:
                    for row in [(wrong, 1), (1, wrong), (wrong, wrong)]:
                        rows = rows_for(MANY[:many])
                        rows[at] = row
                        self.assert_nothing_changed(shelf, NoKey(), filled, shelf, rows)

    def test_no_key_ahead_of_not_rising(self):
        shelf = Shelf()
        for rows in [
            [(2, 0), (1, 0), (None, 0)], [(2, 0), (1, 0), (3, None)], [(2, 0), (1, True)], [(1, 0), (1, 0), (2, 1.5)],
            [("a", 0), (1, 0)] + rows_for(MANY[300:340]) + [((((1,),),), [])], [(None, 0), (2, 0), (1, 0)],
        ]:
            self.assert_nothing_changed(shelf, NoKey(), filled, shelf, rows)

    def test_not_rising_at_each_place(self):
        shelf, _ = planted([[1, 2], [3, 4]])
        for many in (2, 3, 4, 5, 6, 9, 17, 70):
            for at in range(1, many):
                keys = MANY[10:10 + many]
                for wrong in (keys[at - 1], MANY[0], MANY[9]):
                    rows = rows_for(keys)
                    rows[at] = (wrong, "wrong")
                    self.filled_refused(shelf, rows, at)

    def test_the_first_place_is_told(self):
        shelf = Shelf()
        for keys, at in [
            ([2, 1], 1), ([1, 1], 1), ([1, 2, 2, 1], 2), ([1, 2, 3, 4, 5, 5, 4], 5), (["a", 1], 1), ([(), ""], 1),
            ([1, "1", (1,), 1, "1"], 3), (["", " ", "~", "a"], 3), ([(1, 2), (1,)], 1), ([-1, -2, 5, 4], 1),
            (MANY[:200] + MANY[100:200], 200), (MANY[::-1], 1), ([3, 9, 4, 5], 2), ([1, 2, 3, 4, 4, 3], 4),
        ]:
            self.filled_refused(shelf, [(key, 0) for key in keys], at)
        self.assert_refused(NotRising(4), filled, shelf, [(key, key) for key in (1, 2, 3, 4, 0, 5, 6, 7, 8)])
        self.assertEqual(put(shelf, [1]).number, 0)


if __name__ == "__main__":
    unittest.main()

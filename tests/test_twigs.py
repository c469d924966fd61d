"""[2], [4], [5], [20], [22]: the rows of a leaf, and labels."""

import unittest

from trees import NO_KEYS, RISING, TwigCase, rows_for
from twigmap.errors import NoKey, NoLeaf, NoStem
from twigmap.twigs import checked_rows, label_of_rows, label_over

EDGE_KEYS = [-(10 ** 60) + 1, 10 ** 60 - 1, "~" * 40, (1, (2, (3,)))]


def with_one_put(rows, at, row):
    return rows[:at] + [row] + rows[at + 1:]


class CheckedRowsTest(TwigCase):
    def test_one_to_four_rows(self):
        for many in (1, 2, 3, 4):
            rows = rows_for(RISING[5:5 + many])
            self.assertEqual(checked_rows(rows), rows)
            rows = [(key, key) for key in EDGE_KEYS[:many]]
            self.assertEqual(checked_rows(rows), rows)

    def test_values_need_not_rise(self):
        rows = [(1, "b"), ("1", "a"), ((), "a"), ((1,), -5)]
        self.assertEqual(checked_rows(rows), rows)

    def test_none_and_too_many(self):
        self.assert_refused(NoLeaf(), checked_rows, [])
        for many in (5, 6, 400):
            self.assert_refused(NoLeaf(), checked_rows, rows_for(RISING[:many]))

    def test_keys_that_do_not_rise(self):
        for keys in [
            [1, 1], [2, 1], [1, 2, 2], [1, 1, 2], [1, 3, 2], [2, 1, 3], [1, 2, 3, 3], [1, 2, 4, 3], [1, 1, 2, 3],
            ["1", 1], [(), ""], [(), 0], ["a", "A"], ["ab", "a"], [(1, 0), (1,)], [(), ()], ["", ""], [-1, -2],
            [5, 4, 3, 2, 1], [1, 1, 1, 1, 1],
        ]:
            with self.subTest(keys=keys):
                self.assert_refused(NoLeaf(), checked_rows, rows_for(keys))

    def test_no_key_and_no_value_at_each_place(self):
        for many in (1, 2, 3, 4):
            rows = rows_for(RISING[:many])
            for at in range(many):
                for thing in NO_KEYS:
                    self.assert_refused(NoKey(), checked_rows, with_one_put(rows, at, (thing, 1)))
                    self.assert_refused(NoKey(), checked_rows, with_one_put(rows, at, (rows[at][0], thing)))

    def test_no_key_is_refused_ahead_of_all_else(self):
        for keys in (RISING[:5], RISING[:9], [2, 1], [1, 1, 1], [5] * 6):
            rows = rows_for(keys)
            for at in range(len(rows)):
                self.assert_refused(NoKey(), checked_rows, with_one_put(rows, at, (None, 1)))
                self.assert_refused(NoKey(), checked_rows, with_one_put(rows, at, (1, False)))

    def test_the_list_handed_in_stays_and_the_told_one_is_another(self):
        handed = [(1, "a"), (2, "b")]
        told = checked_rows(handed)
        self.assertIsNot(told, handed)
        told.append((3, "c"))
        told[0] = (0, 0)
        self.assertEqual(handed, [(1, "a"), (2, "b")])
        self.assertEqual(checked_rows(handed), [(1, "a"), (2, "b")])
        handed.clear()
        self.assertEqual(told, [(0, 0), (2, "b"), (3, "c")])


class LabelOfRowsTest(unittest.TestCase):
    def test_labels_of_leaves(self):
        self.assertEqual(label_of_rows([(5, "v")]), (0, 5, 5, 1))
        self.assertEqual(label_of_rows([(-1, 9), ("a", 8)]), (0, -1, "a", 2))
        self.assertEqual(label_of_rows([(1, 9), (2, 8), ((), 7)]), (0, 1, (), 3))
        self.assertEqual(label_of_rows(rows_for([1, "1", (), (1,)])), (0, 1, (1,), 4))

    def test_the_list_handed_in_stays(self):
        handed = rows_for([1, 2, 3])
        self.assertIs(type(label_of_rows(handed)), tuple)
        self.assertEqual(handed, rows_for([1, 2, 3]))


class LabelOverTest(TwigCase):
    def test_two_to_four(self):
        labels = [(0, 1, 3, 2), (0, 4, 4, 1), (0, "", "b", 4), (0, (), (1,), 3)]
        self.assertEqual(label_over(labels[:2]), (1, 1, 4, 3))
        self.assertEqual(label_over(labels[1:3]), (1, 4, "b", 5))
        self.assertEqual(label_over(labels[:3]), (1, 1, "b", 7))
        self.assertEqual(label_over(labels), (1, 1, (1,), 10))
        self.assertEqual(label_over([(6, *label[1:]) for label in labels]), (7, 1, (1,), 10))

    def test_labels_that_no_twig_can_have(self):
        self.assertEqual(label_over([(5, 1, 1, 1), (5, 2, 2, 1)]), (6, 1, 2, 2))
        self.assertEqual(label_over([(0, 1, 1, 900), (0, 2, 3, 1)]), (1, 1, 3, 901))
        self.assertEqual(label_over([(10 ** 20, 1, 2, 1), (10 ** 20, 3, 4, 1)]), (10 ** 20 + 1, 1, 4, 2))

    def test_none_one_and_more_than_four(self):
        labels = [(0, 2 * at, 2 * at + 1, 2) for at in range(400)]
        for many in (0, 1, 5, 6, 400):
            self.assert_refused(NoStem(), label_over, labels[:many])

    def test_unlike_heights(self):
        for heights in [(0, 1), (1, 0), (0, 0, 1), (0, 1, 0), (1, 0, 0), (3, 3, 3, 2), (2, 3, 3, 3), (1, 1, 2, 2)]:
            labels = [(height, 2 * at, 2 * at + 1, 8) for at, height in enumerate(heights)]
            self.assert_refused(NoStem(), label_over, labels)

    def test_a_greatest_key_alike_to_the_next_least_or_behind_it(self):
        good = [(0, 10, 12, 2), (0, 20, 22, 2), (0, 30, 32, 2), (0, 40, 42, 2)]
        for many in (2, 3, 4):
            for at in range(many - 1):
                following = good[at + 1][1]
                for greatest in (following, following + 1, following + 3, "a", ()):
                    labels = good[:many]
                    labels[at] = (0, labels[at][1], greatest, 2)
                    self.assert_refused(NoStem(), label_over, labels)
                for least in (good[at][2], good[at][2] - 1, good[at][1], 0):
                    labels = good[:many]
                    labels[at + 1] = (0, least, labels[at + 1][2], 2)
                    self.assert_refused(NoStem(), label_over, labels)
        self.assert_refused(NoStem(), label_over, [good[0], good[0]])
        self.assert_refused(NoStem(), label_over, [good[1], good[0]])
        self.assert_refused(NoStem(), label_over, [(0, "a", "b", 2), (0, 5, 6, 2)])

    def test_keys_right_beside_one_another(self):
        self.assertEqual(label_over([(0, 1, 2, 2), (0, 3, 3, 1)]), (1, 1, 3, 3))
        self.assertEqual(label_over([(0, "a", "a", 1), (0, "a ", "b", 2)]), (1, "a", "b", 3))
        self.assertEqual(label_over([(0, 1, 1, 1), (0, "1", "1", 1), (0, (1,), (1,), 1)]), (1, 1, (1,), 3))

    def test_the_list_handed_in_stays(self):
        handed = [(0, 1, 2, 2), (0, 3, 4, 2)]
        label_over(handed)
        self.assertEqual(handed, [(0, 1, 2, 2), (0, 3, 4, 2)])
        handed.append((1, 5, 6, 2))
        self.assert_refused(NoStem(), label_over, handed)
        self.assertEqual(handed, [(0, 1, 2, 2), (0, 3, 4, 2), (1, 5, 6, 2)])


if __name__ == "__main__":
    unittest.main()

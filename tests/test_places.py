"""[2], [30], [33]: rows by place, places by key."""

import unittest

from trees import NO_KEYS, PLACES, RISING, TreeCase, asked_keys, looks_of, planted, put
from twigmap.errors import NoKey, NoPlace, NoTwig
from twigmap.places import before_key, from_key, many_between, nth, place_of
from twigmap.shelf import Shelf


def ahead_of(tree, key):
    return [row for row in tree.rows if PLACES[row[0]] < PLACES[key]]


class PlaceCase(TreeCase):
    def assert_told(self, wanted, times, shelf, tree, deed, *things):
        """The answer, within so many times the looks of one way down, at twigs that the root reaches."""
        told, looked = looks_of(shelf, deed, tree.number, *things)
        self.assertEqual(told, wanted, things)
        self.assertLessEqual(len(looked), times * (tree.height + 1))
        self.assertLessEqual(set(looked), set(tree.numbers()))


class NthTest(PlaceCase):
    def test_each_place(self):
        for shelf, tree in self.each_tree():
            for at, row in enumerate(tree.rows):
                self.assert_told(row, 2, shelf, tree, nth, at)

    def test_a_root_within_a_tree(self):
        shelf, tree = planted([[1, 2], [3, 4, 2]])
        for twig in tree.twigs():
            self.assertEqual([nth(shelf, twig.number, at) for at in range(len(twig.rows))], twig.rows)
            self.assert_refused(NoPlace(len(twig.rows)), nth, shelf, twig.number, len(twig.rows))

    def test_places_that_are_none(self):
        for shelf, tree in self.each_tree():
            many = len(tree.rows)
            for at in (-1, -2, -many, -many - 1, many, many + 1, 2 * many, 10 ** 70, -10 ** 70):
                self.assert_refused(NoPlace(at), nth, shelf, tree.number, at)

    def test_none(self):
        for at in (0, 1, -1, 10 ** 70):
            self.assert_refused(NoPlace(at), nth, Shelf(), None, at)

    def test_no_twig_ahead_of_no_place(self):
        shelf, tree = planted([1, 1])
        gone = put(shelf, [1]).number
        shelf.let_go(gone)
        for missing in (gone, -1, 3000):
            for at in (0, -1, 99):
                self.assert_refused(NoTwig(missing), nth, shelf, missing, at)


class KeyPlacesTest(PlaceCase):
    def test_place_of(self):
        for shelf, tree in self.each_tree():
            for key in asked_keys(tree):
                self.assert_told(len(ahead_of(tree, key)), 2, shelf, tree, place_of, key)

    def test_from_key_and_before_key(self):
        for shelf, tree in self.each_tree():
            for key in asked_keys(tree):
                many = len(ahead_of(tree, key))
                self.assert_told(tree.rows[many:many + 1], 2, shelf, tree, from_key, key)
                self.assert_told(tree.rows[:many][-1:], 2, shelf, tree, before_key, key)

    def test_by_hand(self):
        shelf = Shelf()
        root = put(shelf, [[10, 12], [20], [30, 32]]).number
        for key, place, behind, before in [
            (9, 0, 10, None), (10, 0, 10, None), (11, 1, 12, 10), (12, 1, 12, 10), (13, 2, 20, 12), (19, 2, 20, 12),
            (20, 2, 20, 12), (21, 3, 30, 20), (30, 3, 30, 20), (32, 4, 32, 30), (33, 5, None, 32), ("", 5, None, 32),
        ]:
            self.assertEqual(place_of(shelf, root, key), place)
            self.assertEqual(from_key(shelf, root, key), [(behind, ("of", behind))] if behind else [])
            self.assertEqual(before_key(shelf, root, key), [(before, ("of", before))] if before else [])

    def test_none(self):
        shelf = Shelf()
        self.assertEqual(looks_of(shelf, place_of, None, 1), (0, []))
        self.assertEqual(looks_of(shelf, from_key, None, 1), ([], []))
        self.assertEqual(looks_of(shelf, before_key, None, 1), ([], []))

    def test_refusals(self):
        for deed in (place_of, from_key, before_key):
            self.assert_refusals(deed)

    def test_told_lists(self):
        shelf, tree = planted([2, 3])
        self.assert_own_lists([tree.rows[0]], from_key, shelf, tree.number, RISING[0])
        self.assert_own_lists([], before_key, shelf, tree.number, RISING[0])
        self.assert_own_lists([tree.rows[-1]], before_key, shelf, tree.number, RISING[-1])
        self.assert_own_lists([], from_key, shelf, tree.number, RISING[-1])
        self.assert_own_lists([], from_key, shelf, None, 1)


class ManyBetweenTest(PlaceCase):
    def test_each_two_keys(self):
        for shelf, tree in self.each_tree():
            keys = asked_keys(tree)
            keys = keys[::1 + len(keys) // 40] + keys[-1:]
            for low in keys:
                for high in keys:
                    wanted = max(len(ahead_of(tree, high)) - len(ahead_of(tree, low)), 0)
                    self.assert_told(wanted, 4, shelf, tree, many_between, low, high)

    def test_by_hand(self):
        shelf = Shelf()
        root = put(shelf, [[10, 12], [20], [30, 32]]).number
        for low, high, many in [
            (10, 12, 1), (10, 13, 2), (10, 10, 0), (12, 10, 0), (32, 10, 0), (0, 99, 5), (99, 0, 0), (11, 30, 2),
            (32, "", 1), (33, "", 0), ("", 33, 0), ((), 0, 0), (0, (), 5), (20, 21, 1), (20, 20, 0), (21, 20, 0),
        ]:
            self.assertEqual(many_between(shelf, root, low, high), many, (low, high))

    def test_none(self):
        for low, high in ((1, 2), (2, 1), (1, 1)):
            self.assertEqual(looks_of(Shelf(), many_between, None, low, high), (0, []))

    def test_refusals(self):
        self.assert_refusals(many_between, 5)
        self.assert_refusals(many_between, None)
        shelf, tree = planted([1, 2])
        for key in NO_KEYS:
            for low in (-10 ** 59, 5, "", ()):
                self.assert_refused(NoKey(), many_between, shelf, tree.number, low, key)
                self.assert_refused(NoKey(), many_between, shelf, None, low, key)
                self.assert_refused(NoTwig(3000), many_between, shelf, 3000, low, key)


if __name__ == "__main__":
    unittest.main()

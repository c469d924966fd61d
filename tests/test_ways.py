"""[2], [30] to [32]: ways, sides, and what a root reaches."""

import unittest

from trees import RISING, TreeCase, asked_keys, looks_of, planted, put, rows_for
from twigmap.shelf import Shelf
from twigmap.ways import height_of, leaves_of, rows_of, twigs_of, value_of, way_holds, way_to


class WayToTest(TreeCase):
    def test_ways_and_looks(self):
        for shelf, tree in self.each_tree():
            for key in asked_keys(tree):
                way = tree.way(key)
                self.assertEqual(looks_of(shelf, way_to, tree.number, key), (way, [number for number, _ in way]))

    def test_ahead_of_all_and_behind_all(self):
        shelf, tree = planted([[1, 2], [3, 4, 2]])
        first, last = tree.parts[0], tree.parts[1]
        self.assertEqual(
            way_to(shelf, tree.number, RISING[0]), [(tree.number, 0), (first.number, 0), (first.parts[0].number, 0)]
        )
        self.assertEqual(
            way_to(shelf, tree.number, RISING[-1]), [(tree.number, 1), (last.number, 2), (last.parts[2].number, 2)]
        )

    def test_between_two_branches(self):
        shelf = Shelf()
        tree = put(shelf, [[10, 12], [20, 22], [30]])
        one, two, three = tree.leaves()
        for key, way in [
            (9, [(0, one, 0)]), (10, [(0, one, 0)]), (11, [(0, one, 1)]), (12, [(0, one, 1)]), (13, [(0, one, 2)]),
            (19, [(0, one, 2)]), (20, [(1, two, 0)]), (21, [(1, two, 1)]), (29, [(1, two, 2)]), (30, [(2, three, 0)]),
            (31, [(2, three, 1)]), ("", [(2, three, 1)]), ((), [(2, three, 1)]),
        ]:
            at, leaf, place = way[0]
            self.assertEqual(way_to(shelf, tree.number, key), [(tree.number, at), (leaf, place)])

    def test_a_root_within_a_tree(self):
        shelf, tree = planted([[1, 2], [3, 4, 2]])
        for twig in tree.twigs():
            for key in asked_keys(tree):
                way = twig.way(key)
                self.assertEqual(looks_of(shelf, way_to, twig.number, key), (way, [number for number, _ in way]))

    def test_none(self):
        for key in (1, "", ()):
            self.assertEqual(looks_of(Shelf(), way_to, None, key), ([], []))

    def test_refusals(self):
        self.assert_refusals(way_to)

    def test_told_lists(self):
        shelf, tree = planted([2, 3])
        self.assert_own_lists(tree.way(RISING[5]), way_to, shelf, tree.number, RISING[5])
        self.assert_own_lists([], way_to, shelf, None, 5)


class WayHoldsTest(TreeCase):
    def wrong_ways(self, tree, way):
        others = [number for number in tree.numbers()] + [-1, -2, 3000, 10 ** 70, 0]
        for length in range(len(way)):
            yield way[:length]
            yield way[length + 1:]
        for more in [way[-1], way[0], (-1, -1), (3000, 0), (0, 0), (tree.number, 0)]:
            yield way + [more]
            yield [more] + way
        yield way + way
        yield [(-1, -1)]
        yield [(-1, 0)] * 4
        for place, (number, at) in enumerate(way):
            for other in others:
                yield way[:place] + [(other, at)] + way[place + 1:]
            for other in (at - 1, at + 1, -1 - at, at - 2, at - 3, at - 4, at + 4, -10 ** 70, 10 ** 70):
                yield way[:place] + [(number, other)] + way[place + 1:]

    def assert_told(self, shelf, root, key, way, wanted):
        handed = list(way)
        told, looked = looks_of(shelf, way_holds, root, key, way)
        self.assertIs(told, wanted, (key, way))
        self.assertEqual(way, handed)
        self.assertEqual(len(looked), len(set(looked)), way)
        self.assertLessEqual(set(looked), {number for number, _ in way})

    def test_right_and_wrong_ways(self):
        for shelf, tree in self.each_tree():
            for key in asked_keys(tree)[:40]:
                way = tree.way(key)
                self.assert_told(shelf, tree.number, key, way, True)
                for wrong in self.wrong_ways(tree, way):
                    self.assert_told(shelf, tree.number, key, wrong, wrong == way)

    def test_ways_of_other_keys_and_roots(self):
        shelf, tree = planted([[1, 2], [3, 4, 2]])
        ways = {key: tree.way(key) for key in asked_keys(tree)}
        for one in ways:
            for other in ways:
                self.assert_told(shelf, tree.number, one, ways[other], ways[one] == ways[other])
            for twig in tree.twigs()[1:]:
                self.assert_told(shelf, twig.number, one, ways[one], False)
                self.assert_told(shelf, tree.number, one, twig.way(one), False)
                self.assert_told(shelf, twig.number, one, twig.way(one), True)

    def test_none(self):
        shelf, tree = planted([1, 1])
        for key in (1, "", ()):
            self.assert_told(shelf, None, key, [], True)
            for way in ([(tree.number, 0)], [(0, 0)], [(-1, 0)], tree.way(RISING[1])):
                self.assert_told(shelf, None, key, way, False)

    def test_a_way_of_numbers_that_no_twig_has_is_no_refusal(self):
        shelf, tree = planted([1, 1])
        for way in ([(3000, 0)], [(tree.number, 0), (3000, 0)], [(-1, 0), (-1, 0)], [(3000, 0), (tree.number, 0)]):
            self.assert_told(shelf, tree.number, RISING[1], way, False)

    def test_refusals(self):
        for way in ([], [(0, 0)], [(-1, -1)]):
            self.assert_refusals(way_holds, way)


class ValueOfTest(TreeCase):
    def test_sides_and_looks(self):
        for shelf, tree in self.each_tree():
            sides = {key: [value] for key, value in tree.rows}
            for key in asked_keys(tree):
                looked = [number for number, _ in tree.way(key)]
                self.assertEqual(looks_of(shelf, value_of, tree.number, key), (sides.get(key, []), looked))

    def test_keys_of_another_kind_are_not_alike(self):
        shelf = Shelf()
        number = shelf.put_leaf([(1, "a"), ("1", "b"), ((1,), "c"), (("1",), "d")])
        self.assertEqual([value_of(shelf, number, key) for key in (1, "1", (1,), ("1",))], [["a"], ["b"], ["c"], ["d"]])
        self.assertEqual([value_of(shelf, number, key) for key in (0, "", (), ((1,),), 2, "2")], [[]] * 6)

    def test_none(self):
        self.assertEqual(looks_of(Shelf(), value_of, None, 1), ([], []))

    def test_refusals(self):
        self.assert_refusals(value_of)

    def test_told_lists(self):
        shelf, tree = planted([2, 3])
        key, value = tree.rows[3]
        self.assert_own_lists([value], value_of, shelf, tree.number, key)
        self.assert_own_lists([], value_of, shelf, tree.number, RISING[0])
        self.assert_own_lists([], value_of, shelf, None, 1)


class ReachedTest(TreeCase):
    def assert_reached(self, wanted, shelf, twig, deed):
        told, looked = looks_of(shelf, deed, twig.number)
        self.assertEqual(told, wanted)
        self.assertEqual(len(looked), len(set(looked)))
        self.assertLessEqual(set(looked), set(twig.numbers()))

    def test_rows_twigs_and_leaves(self):
        for shelf, tree in self.each_tree():
            for twig in tree.twigs():
                self.assert_reached(twig.rows, shelf, twig, rows_of)
                self.assert_reached(twig.numbers(), shelf, twig, twigs_of)
                self.assert_reached(twig.leaves(), shelf, twig, leaves_of)

    def test_numbers_in_another_order_than_keys(self):
        shelf = Shelf()
        right = [shelf.put_leaf(rows_for([key])) for key in (8, 7, 6, 5)][::-1]
        last = shelf.put_stem(right[2:])
        left = [shelf.put_leaf(rows_for([key])) for key in (4, 3, 2, 1)][::-1]
        middle, first = shelf.put_stem(right[:2]), shelf.put_stem(left)
        root = shelf.put_stem([first, middle, last])
        self.assertEqual(rows_of(shelf, root), rows_for(range(1, 9)))
        self.assertEqual(leaves_of(shelf, root), left + right)
        self.assertEqual(twigs_of(shelf, root), sorted(left + right + [first, middle, last, root]))

    def test_twigs_that_two_roots_share(self):
        shelf = Shelf()
        shared = put(shelf, [[5], [6]])
        shelf.hold(shared.number)
        low, high = put(shelf, [[1], [2]]), put(shelf, [[8], [9]])
        one = shelf.put_stem([low.number, shared.number])
        other = shelf.put_stem([shared.number, high.number])
        self.assertEqual(rows_of(shelf, one), rows_for([1, 2, 5, 6]))
        self.assertEqual(rows_of(shelf, other), rows_for([5, 6, 8, 9]))
        self.assertEqual(twigs_of(shelf, one), sorted(low.numbers() + shared.numbers() + [one]))
        self.assertEqual(leaves_of(shelf, other), shared.leaves() + high.leaves())

    def test_height_is_told_without_a_look(self):
        for shelf, tree in self.each_tree():
            for twig in tree.twigs():
                self.assertEqual(looks_of(shelf, height_of, twig.number), (twig.height, []))

    def test_none(self):
        shelf, _ = planted([1, 1])
        for deed in (rows_of, twigs_of, leaves_of):
            self.assertEqual(looks_of(shelf, deed, None), ([], []))
        self.assertEqual(looks_of(shelf, height_of, None), (-1, []))

    def test_refusals(self):
        for deed in (rows_of, twigs_of, leaves_of, height_of):
            self.assert_root_refused(deed)

    def test_told_lists(self):
        shelf, tree = planted([2, 3])
        leaf = tree.parts[0]
        for root, twig in ((tree.number, tree), (leaf.number, leaf)):
            self.assert_own_lists(twig.rows, rows_of, shelf, root)
            self.assert_own_lists(twig.numbers(), twigs_of, shelf, root)
            self.assert_own_lists(twig.leaves(), leaves_of, shelf, root)
        for deed in (rows_of, twigs_of, leaves_of):
            self.assert_own_lists([], deed, shelf, None)

    def test_changes_are_read_at_once(self):
        shelf = Shelf()
        tree = put(shelf, [[[1], [3]], [[5], [7]]])
        shelf.change_leaf(tree.leaves()[1], rows_for([2, 4]))
        self.assertEqual(rows_of(shelf, tree.number), rows_for([1, 2, 4, 5, 7]))
        self.assertEqual(value_of(shelf, tree.number, 3), [])
        self.assertEqual(value_of(shelf, tree.number, 4), [("of", 4)])
        self.assertEqual(way_to(shelf, tree.number, 3)[2], (tree.leaves()[1], 1))


if __name__ == "__main__":
    unittest.main()

"""[2], [3], [24] to [26]: leaves and stems changed in place."""

import unittest

from trees import TwigCase, put, rows_for, shown
from twigmap.errors import NoKey, NoLeaf, NoStem, NoTwig, NotHeld, Shared
from twigmap.shelf import Shelf

NO_ROWS = [[], rows_for([12, 12]), rows_for([13, 12]), rows_for([11, 12, 13, 14, 15])]
NO_KEYS = [[(None, 1)], [(12, None)], [(12, 1), (True, 1)], [(12, 1), (13, [])], rows_for([1] * 5) + [(1.0, 1)]]


def forest():
    """A tree of height 2, ten apart: leaves of 10 and 12, 20 and 22, and so on to 60 and 62, two to a stem."""
    shelf = Shelf()
    tree = put(shelf, [[[place, place + 2] for place in pair] for pair in ((10, 20), (30, 40), (50, 60))])
    return shelf, tree


class ChangeLeafTest(TwigCase):
    def test_a_leaf_by_itself(self):
        shelf = Shelf()
        number = put(shelf, [5]).number
        for keys in ([1, 2, 3, 4], ["a"], [(), (1,)], [5], [-1, 5, "x"]):
            self.assertIsNone(shelf.change_leaf(number, rows_for(keys)))
            self.assertEqual(shelf.look(number), ("leaf", rows_for(keys)))
            self.assertEqual(shelf.label(number), (0, keys[0], keys[-1], len(keys)))
            self.assert_held(shelf, number, 1, 1)
            self.assertEqual(shelf.numbers(), [number])

    def test_values_alone(self):
        shelf, tree = forest()
        number = tree.leaves()[3]
        before = shown(shelf)
        shelf.change_leaf(number, [(40, "new"), (42, ())])
        after = shown(shelf)
        self.assertEqual(after[0].pop(number)[0], ("leaf", [(40, "new"), (42, ())]))
        before[0].pop(number)
        self.assertEqual(after, before)

    def test_labels_of_all_stems_above_at_once(self):
        shelf, tree = forest()
        first, second, third, _, _, last = tree.leaves()
        left, middle, right = [part.number for part in tree.parts]
        shelf.change_leaf(first, rows_for([-5, 0, 1]))
        self.assertEqual(shelf.label(first), (0, -5, 1, 3))
        self.assertEqual(shelf.label(left), (1, -5, 22, 5))
        self.assertEqual(shelf.label(tree.number), (2, -5, 62, 13))
        shelf.change_leaf(last, rows_for(["a"]))
        self.assertEqual(shelf.label(right), (1, 50, "a", 3))
        self.assertEqual(shelf.label(tree.number), (2, -5, "a", 12))
        shelf.change_leaf(second, rows_for([2, 3, 28, 29]))
        self.assertEqual(shelf.label(left), (1, -5, 29, 7))
        self.assertEqual(shelf.label(tree.number), (2, -5, "a", 14))
        shelf.change_leaf(third, rows_for([39]))
        self.assertEqual(shelf.label(middle), (1, 39, 42, 3))
        self.assertEqual(shelf.label(tree.number), (2, -5, "a", 13))

    def test_number_and_holders_stay(self):
        shelf, tree = forest()
        before = shown(shelf)
        number = tree.leaves()[2]
        shelf.change_leaf(number, rows_for([31]))
        after = shown(shelf)
        self.assertEqual(list(after[0]), list(before[0]))
        for one in before[0]:
            self.assertEqual(after[0][one][2:], before[0][one][2:])
        self.assertEqual(shelf.look(tree.parts[1].number), ("stem", [part.number for part in tree.parts[1].parts]))

    def test_up_to_the_keys_beside(self):
        shelf, tree = forest()
        third = tree.leaves()[2]
        for keys in ([23, 39], [23], [39]):
            shelf.change_leaf(third, rows_for(keys))
            self.assertEqual(shelf.look(third), ("leaf", rows_for(keys)))
        for keys in ([22, 30], [30, 40], [40], [22], [10], [65], ["a"], [30, 41], [21, 30], [30, 50], [1, 30]):
            self.assert_nothing_changed(shelf, NoLeaf(), shelf.change_leaf, third, rows_for(keys))

    def test_keys_above_that_would_no_longer_rise(self):
        # The least leaf of a stem against the stem ahead, the greatest against the stem behind, in each
        # height: within the stem itself the keys go on rising.
        shelf = Shelf()
        tree = put(shelf, [[[[10], [20]], [[30], [40]]], [[[50], [60]], [[70], [80]]]])
        leaves = tree.leaves()
        for place, keys in [
            (4, [40]), (4, [39]), (4, [5]), (3, [50]), (3, [51]), (3, [35, 55]), (2, [20]), (2, [15]), (5, [70]),
            (5, [75]), (4, [40, 50]), (3, [40, 50]), (6, [60]), (0, [20]), (7, [70]), (7, [1]), (0, ["a"]),
        ]:
            with self.subTest(place=place, keys=keys):
                self.assert_nothing_changed(shelf, NoLeaf(), shelf.change_leaf, leaves[place], rows_for(keys))
        shelf.change_leaf(leaves[4], rows_for([41]))
        shelf.change_leaf(leaves[3], rows_for([31, 40]))
        self.assertEqual(shelf.label(tree.number), (3, 10, 80, 9))
        self.assertEqual(shelf.label(tree.parts[1].number), (2, 41, 80, 4))

    def test_no_leaf_of_a_stem(self):
        shelf, tree = forest()
        shelf.hold(tree.number)
        for number in (tree.number, tree.parts[0].number):
            for rows in [rows_for([11])] + NO_ROWS + NO_KEYS:
                self.assert_nothing_changed(shelf, NoLeaf(), shelf.change_leaf, number, rows)

    def test_shared_tells_the_first_with_more_than_one_holder(self):
        shelf, tree = forest()
        stem = tree.parts[0]
        leaf, beside = stem.parts
        every_rows = [rows_for([10]), rows_for([99])] + NO_ROWS + NO_KEYS
        shelf.hold(tree.number)
        for rows in every_rows:
            for number in tree.leaves():
                self.assert_nothing_changed(shelf, Shared(tree.number), shelf.change_leaf, number, rows)
        shelf.hold(stem.number)
        for rows in every_rows:
            self.assert_nothing_changed(shelf, Shared(stem.number), shelf.change_leaf, leaf.number, rows)
        shelf.hold(leaf.number)
        for rows in every_rows:
            self.assert_nothing_changed(shelf, Shared(leaf.number), shelf.change_leaf, leaf.number, rows)
            self.assert_nothing_changed(shelf, Shared(stem.number), shelf.change_leaf, beside.number, rows)
        shelf.let_go(tree.number)
        self.assert_refused(Shared(leaf.number), shelf.change_leaf, leaf.number, rows_for([10]))
        shelf.let_go(stem.number)
        self.assert_refused(Shared(leaf.number), shelf.change_leaf, leaf.number, rows_for([10]))
        shelf.let_go(leaf.number)
        shelf.change_leaf(leaf.number, rows_for([9]))
        self.assertEqual(shelf.label(tree.number), (2, 9, 62, 11))

    def test_shared_by_two_stems(self):
        shelf = Shelf()
        leaf = put(shelf, [1]).number
        shelf.hold(leaf)
        first = shelf.put_stem([leaf, put(shelf, [2]).number])
        second = shelf.put_stem([leaf, put(shelf, [3]).number])
        self.assert_nothing_changed(shelf, Shared(leaf), shelf.change_leaf, leaf, rows_for([0]))
        shelf.hold(first)
        top = shelf.put_stem([first, put(shelf, [[8], [9]]).number])
        self.assert_nothing_changed(shelf, Shared(leaf), shelf.change_leaf, leaf, rows_for([0]))
        shelf.let_go(second)
        self.assert_nothing_changed(shelf, Shared(first), shelf.change_leaf, leaf, rows_for([0]))
        shelf.let_go(first)
        shelf.change_leaf(leaf, rows_for([0]))
        self.assertEqual(shelf.label(top), (2, 0, 9, 4))

    def test_rows_that_are_none(self):
        shelf, tree = forest()
        for number in tree.leaves():
            for rows in NO_ROWS:
                self.assert_nothing_changed(shelf, NoLeaf(), shelf.change_leaf, number, rows)
            for rows in NO_KEYS:
                self.assert_nothing_changed(shelf, NoKey(), shelf.change_leaf, number, rows)
        self.assert_refused(NoKey(), shelf.change_leaf, tree.leaves()[0], rows_for([90]) + [(91, None)])

    def test_lists_changed_behind_the_call(self):
        shelf, tree = forest()
        number = tree.leaves()[0]
        handed = rows_for([3, 4])
        shelf.change_leaf(number, handed)
        self.assertEqual(handed, rows_for([3, 4]))
        handed.append((5, 5))
        handed[0] = (99, 99)
        shelf.look(number)[1].clear()
        self.assertEqual(shelf.look(number), ("leaf", rows_for([3, 4])))
        self.assertEqual(shelf.label(tree.number), (2, 3, 62, 12))


class ChangeStemTest(TwigCase):
    def test_branches_kept_left_and_new(self):
        shelf, tree = forest()
        stem = tree.parts[1]
        kept, left = [part.number for part in stem.parts]
        new, newer = put(shelf, [25]).number, put(shelf, [41, 43, 45]).number
        shelf.hold(newer)
        self.assertIsNone(shelf.change_stem(stem.number, [new, kept, newer]))
        self.assertEqual(shelf.look(stem.number), ("stem", [new, kept, newer]))
        self.assertEqual(shelf.label(stem.number), (1, 25, 45, 6))
        self.assertEqual(shelf.label(tree.number), (2, 10, 62, 14))
        self.assert_held(shelf, stem.number, 1, 0)
        self.assert_held(shelf, kept, 1, 0)
        self.assert_held(shelf, left, 1, 1)
        self.assert_held(shelf, new, 1, 0)
        self.assert_held(shelf, newer, 2, 1)
        self.assertIs(shelf.alone(new), True)
        self.assertIs(shelf.alone(newer), False)
        self.assertEqual(shelf.numbers(), sorted(tree.numbers() + [new, newer]))

    def test_the_same_branches_again(self):
        shelf, tree = forest()
        before = shown(shelf)
        for stem in [tree] + tree.parts:
            shelf.change_stem(stem.number, [part.number for part in stem.parts])
        self.assertEqual(shown(shelf), before)

    def test_all_branches_left(self):
        shelf = Shelf()
        tree = put(shelf, [[1], [2], [3], [4]])
        new = [put(shelf, ["a"]).number, put(shelf, ["b", "c"]).number]
        shelf.change_stem(tree.number, new)
        self.assertEqual(shelf.label(tree.number), (1, "a", "c", 3))
        for leaf in tree.leaves():
            self.assert_held(shelf, leaf, 1, 1)
        shelf.let_go(tree.number)
        self.assertEqual(shelf.numbers(), tree.leaves())

    def test_a_branch_with_other_holders_is_left(self):
        shelf = Shelf()
        tree = put(shelf, [[1], [2], [3]])
        first, second, third = tree.leaves()
        shelf.hold(first)
        other = shelf.put_stem([first, put(shelf, [9]).number])
        shelf.hold(first)
        self.assert_held(shelf, first, 3, 1)
        shelf.change_stem(tree.number, [second, third])
        self.assert_held(shelf, first, 3, 2)
        shelf.let_go(tree.number)
        self.assert_held(shelf, first, 3, 2)
        shelf.let_go(other)
        self.assert_held(shelf, first, 2, 2)

    def test_two_to_four_branches(self):
        shelf = Shelf()
        tree = put(shelf, [[1], [2]])
        leaves = tree.leaves() + [put(shelf, [key]).number for key in (3, 4, 5)]
        shelf.change_stem(tree.number, leaves[:3])
        shelf.change_stem(tree.number, leaves[:4])
        self.assertEqual(shelf.label(tree.number), (1, 1, 4, 4))
        shelf.change_stem(tree.number, leaves[2:4])
        self.assertEqual(shelf.label(tree.number), (1, 3, 4, 2))
        self.assertEqual([shelf.outside(leaf) for leaf in leaves], [1, 1, 0, 0, 1])
        for numbers in ([], leaves[:1], leaves[2:3], leaves):
            self.assert_nothing_changed(shelf, NoStem(), shelf.change_stem, tree.number, numbers)

    def test_a_leaf_is_no_stem(self):
        shelf, tree = forest()
        shelf.hold(tree.number)
        lone = put(shelf, [7]).number
        for number in (lone, tree.leaves()[0]):
            for numbers in (tree.leaves()[:2], [], [99, 98], [lone], [lone, lone]):
                self.assert_nothing_changed(shelf, NoStem(), shelf.change_stem, number, numbers)

    def test_shared_tells_the_first_with_more_than_one_holder(self):
        shelf, tree = forest()
        stem = tree.parts[1]
        free = put(shelf, [41]).number
        lists = [
            [part.number for part in stem.parts], stem.leaves()[:1] + [free], [], [free], [99, 98], [free, free],
            [part.number for part in tree.parts], tree.parts[0].leaves(),
        ]
        shelf.hold(tree.number)
        for numbers in lists:
            self.assert_nothing_changed(shelf, Shared(tree.number), shelf.change_stem, stem.number, numbers)
            self.assert_nothing_changed(shelf, Shared(tree.number), shelf.change_stem, tree.number, numbers)
        shelf.hold(stem.number)
        for numbers in lists:
            self.assert_nothing_changed(shelf, Shared(stem.number), shelf.change_stem, stem.number, numbers)
            self.assert_nothing_changed(shelf, Shared(tree.number), shelf.change_stem, tree.parts[0].number, numbers)
        shelf.let_go(tree.number)
        for numbers in lists:
            self.assert_nothing_changed(shelf, Shared(stem.number), shelf.change_stem, stem.number, numbers)
        shelf.let_go(stem.number)
        shelf.change_stem(stem.number, lists[1])
        self.assertEqual(shelf.label(stem.number), (1, 30, 41, 3))

    def test_a_shared_branch_does_not_keep_a_stem_from_being_changed(self):
        shelf, tree = forest()
        stem = tree.parts[0]
        for leaf in stem.leaves():
            shelf.hold(leaf)
        new = put(shelf, [24]).number
        shelf.change_stem(stem.number, stem.leaves() + [new])
        self.assertEqual(shelf.label(tree.number), (2, 10, 62, 13))
        self.assertEqual([shelf.outside(leaf) for leaf in stem.leaves()], [1, 1])

    def test_a_missing_branch_is_refused_ahead_of_what_else_is_wrong(self):
        shelf, tree = forest()
        stem = tree.parts[1]
        first, second = stem.leaves()
        gone = put(shelf, [1]).number
        shelf.let_go(gone)
        for missing in (gone, gone + 1, -1, 10 ** 70):
            for numbers in (
                [missing], [first, missing], [missing, first], [second, first, missing], [first] * 4 + [missing],
                [tree.number, missing], [tree.leaves()[0], missing], [missing, -2, -3], [first, second, missing, -2],
            ):
                self.assert_nothing_changed(shelf, NoTwig(missing), shelf.change_stem, stem.number, numbers)

    def test_another_height(self):
        shelf, tree = forest()
        leaves = [put(shelf, [key]).number for key in (1, 2)]
        stems = [put(shelf, [[key], [key + 1]]).number for key in (100, 110)]
        higher = put(shelf, [[["a"], ["b"]], [["c"], ["d"]]]).number
        stem = tree.parts[0]
        beside = [part.number for part in tree.parts[1:]]
        for numbers in (stems, [tree.number, higher], beside, [stem.number, stems[0]]):
            self.assert_nothing_changed(shelf, NoStem(), shelf.change_stem, stem.number, numbers)
        for numbers in (leaves, stem.leaves(), tree.leaves()[:4], [tree.number, higher]):
            self.assert_nothing_changed(shelf, NoStem(), shelf.change_stem, tree.number, numbers)
        for numbers in (stem.leaves() + [stems[0]], leaves[:1] + [stem.number], [leaves[0], stems[0]]):
            self.assert_nothing_changed(shelf, NoStem(), shelf.change_stem, stem.number, numbers)

    def test_a_stem_never_comes_under_itself(self):
        shelf = Shelf()
        low = put(shelf, [[1], [2]])
        high = put(shelf, [[["a"], ["b"]], [["c"], ["d"]]])
        shelf.hold(low.number)
        shelf.let_go(low.number)
        self.assert_nothing_changed(shelf, NoStem(), shelf.change_stem, high.number, [low.number, high.number])
        self.assert_nothing_changed(shelf, NoStem(), shelf.change_stem, low.number, [low.number, high.number])
        self.assert_nothing_changed(
            shelf, NoStem(), shelf.change_stem, high.parts[0].number, [high.parts[0].number, high.parts[1].number]
        )

    def test_keys_that_do_not_rise(self):
        shelf, tree = forest()
        stem = tree.parts[1]
        first, second = stem.leaves()
        over = put(shelf, [32, 35]).number
        for numbers in (
            [second, first], [first, first], [first, over], [over, first], [first, second, over], [first, second] * 2,
        ):
            self.assert_nothing_changed(shelf, NoStem(), shelf.change_stem, stem.number, numbers)
        self.assert_nothing_changed(
            shelf, NoStem(), shelf.change_stem, tree.number, [part.number for part in tree.parts[::-1]]
        )

    def test_keys_above_that_would_no_longer_rise(self):
        shelf = Shelf()
        tree = put(shelf, [[[[10], [20]], [[30], [40]]], [[[50], [60]], [[70], [80]]]])
        stem = tree.parts[0].parts[1]
        first, second = stem.leaves()
        by_key = {key: put(shelf, [key]).number for key in (15, 20, 21, 45, 49, 50, 55)}
        for numbers in (
            [by_key[15], first], [by_key[20], first], [second, by_key[50]], [second, by_key[55]],
            [by_key[50], by_key[55]], [by_key[15], by_key[55]], [first, second, by_key[55]], [by_key[15], by_key[20]],
        ):
            self.assert_nothing_changed(shelf, NoStem(), shelf.change_stem, stem.number, numbers)
        shelf.change_stem(stem.number, [by_key[21], by_key[45], by_key[49]])
        self.assertEqual(shelf.label(stem.number), (1, 21, 49, 3))
        self.assertEqual(shelf.label(tree.parts[0].number), (2, 10, 49, 5))
        self.assertEqual(shelf.label(tree.number), (3, 10, 80, 9))
        ahead = tree.parts[0].parts[0]
        shelf.change_stem(ahead.number, [ahead.leaves()[0], by_key[20]])
        self.assert_nothing_changed(shelf, NoStem(), shelf.change_stem, ahead.number, [ahead.leaves()[0], first])

    def test_a_branch_of_the_stem_beside(self):
        shelf, tree = forest()
        one, other = tree.parts[0], tree.parts[1]
        shelf.hold(other.leaves()[0])
        wrong = one.leaves() + other.leaves()[:1]
        self.assert_nothing_changed(shelf, NoStem(), shelf.change_stem, one.number, wrong)

    def test_not_held_of_the_first_new_branch_without_a_hold(self):
        shelf, tree = forest()
        other = put(shelf, [[33], [34], [35]])
        stem = tree.parts[1]
        first, second = stem.leaves()
        taken = other.leaves()
        free = put(shelf, [37]).number
        for numbers, wanted in [
            ([taken[0], taken[1]], taken[0]), ([taken[1], taken[2]], taken[1]), ([taken[1], second], taken[1]),
            ([first, taken[1]], taken[1]), ([first, taken[2], free, second], taken[2]),
            ([first, taken[1], taken[2], second], taken[1]), (taken + [free], taken[0]),
        ]:
            self.assert_nothing_changed(shelf, NotHeld(wanted), shelf.change_stem, stem.number, numbers)
        shelf.hold(taken[0])
        self.assert_nothing_changed(shelf, NotHeld(taken[1]), shelf.change_stem, stem.number, taken)
        shelf.hold(taken[2])
        self.assert_nothing_changed(shelf, NotHeld(taken[1]), shelf.change_stem, stem.number, taken)
        shelf.hold(taken[1])
        shelf.change_stem(stem.number, taken + [free])
        for number in taken:
            self.assert_held(shelf, number, 2, 0)
        self.assert_held(shelf, free, 1, 0)

    def test_no_stem_is_refused_ahead_of_not_held(self):
        shelf, tree = forest()
        other = put(shelf, [[31], [33], [35]])
        taken = other.leaves()
        stem = tree.parts[1]
        for numbers in ([taken[1], taken[0]], [taken[0]], [taken[0]] * 2, tree.parts[0].leaves(), tree.leaves()[4:]):
            self.assert_nothing_changed(shelf, NoStem(), shelf.change_stem, stem.number, numbers)

    def test_lists_changed_behind_the_call(self):
        shelf, tree = forest()
        stem = tree.parts[0]
        new = put(shelf, [15]).number
        first, second = stem.leaves()
        handed = [first, new, second]
        shelf.change_stem(stem.number, handed)
        self.assertEqual(handed, [first, new, second])
        handed.pop()
        handed[0] = 99
        shelf.look(stem.number)[1].clear()
        self.assertEqual(shelf.look(stem.number), ("stem", [first, new, second]))
        self.assertEqual(shelf.label(tree.number), (2, 10, 62, 13))


class ReachedByTwoTest(TwigCase):
    def test_nothing_can_be_changed_of_a_twig_that_two_reach(self):
        shelf, tree = forest()
        shared = tree.parts[1]
        shelf.hold(shared.number)
        other = shelf.put_stem([shared.number, put(shelf, [["a"], ["b"]]).number])
        before = {number: shown(shelf)[0][number] for number in shared.numbers()}
        for twig in shared.twigs():
            wanted = Shared(shared.number)
            if twig.parts:
                self.assert_refused(wanted, shelf.change_stem, twig.number, [part.number for part in twig.parts])
            else:
                self.assert_refused(wanted, shelf.change_leaf, twig.number, twig.rows)
        shelf.change_leaf(tree.leaves()[0], rows_for([1]))
        shelf.change_stem(tree.number, [part.number for part in tree.parts[:2]])
        self.assertEqual({number: shown(shelf)[0][number] for number in shared.numbers()}, before)
        self.assertEqual(shelf.label(other), (2, 30, "b", 6))


if __name__ == "__main__":
    unittest.main()

"""[2], [20] to [23], [27]: twigs put on the shelf, held, let go and looked at."""

import unittest

from trees import RISING, TwigCase, put, rows_for, shown
from twigmap.errors import NoKey, NoLeaf, NoStem, NoTwig, NotHeld
from twigmap.shelf import Shelf

NO_ROWS = [[], rows_for([1, 1]), rows_for([2, 1]), rows_for([1, 2, 3, 4, 5]), rows_for([1, 3, 2]), rows_for([()] * 2)]


class PutLeafTest(TwigCase):
    def test_one_to_four_rows(self):
        shelf = Shelf()
        for many in (1, 2, 3, 4):
            rows = rows_for(RISING[7:7 + many])
            number = shelf.put_leaf(rows)
            self.assertIs(type(number), int)
            self.assertGreaterEqual(number, 0)
            self.assertEqual(shelf.look(number), ("leaf", rows))
            self.assertEqual(shelf.label(number), (0, RISING[7], RISING[6 + many], many))
            self.assert_held(shelf, number, 1, 1)
            self.assertIs(shelf.alone(number), True)
            self.assertEqual(shelf.many(), many)

    def test_alike_leaves_are_twigs_of_their_own(self):
        shelf = Shelf()
        one, other = shelf.put_leaf([(1, 2)]), shelf.put_leaf([(1, 2)])
        self.assertNotEqual(one, other)
        shelf.let_go(one)
        self.assertEqual(shelf.numbers(), [other])
        self.assertEqual(shelf.look(other), ("leaf", [(1, 2)]))

    def test_refused(self):
        shelf = Shelf()
        kept = shelf.put_leaf(rows_for([1, 2]))
        for rows in NO_ROWS:
            self.assert_nothing_changed(shelf, NoLeaf(), shelf.put_leaf, rows)
            for at in range(len(rows)):
                for row in ((None, 1), (1, None), (True, 1), (1, "\n"), ([], []), (10 ** 60, 1), (1, ((((),),),))):
                    wrong = rows[:at] + [row] + rows[at + 1:]
                    self.assert_nothing_changed(shelf, NoKey(), shelf.put_leaf, wrong)
        for at in range(4):
            rows = rows_for([1, 2, 3, 4])
            self.assert_nothing_changed(shelf, NoKey(), shelf.put_leaf, rows[:at] + [(at + 1, False)] + rows[at + 1:])
            self.assert_nothing_changed(shelf, NoKey(), shelf.put_leaf, rows[:at] + [(1.0, 1)] + rows[at + 1:])
        self.assertEqual(shelf.numbers(), [kept])

    def test_numbers_rise_and_never_come_again(self):
        shelf = Shelf()
        told = []
        for turn in range(12):
            told.append(shelf.put_leaf([(1, turn)]))
            told.append(shelf.put_leaf([(2, turn)]))
            if turn % 3 == 0:
                told.append(shelf.put_stem(told[-2:]))
            if turn % 2 == 0:
                shelf.let_go(told[-1])
            self.assert_refused(NoLeaf(), shelf.put_leaf, [])
            self.assert_refused(NoStem(), shelf.put_stem, [])
        for number in shelf.numbers():
            while number in shelf.numbers() and shelf.outside(number):
                shelf.let_go(number)
        self.assertEqual(shelf.numbers(), [])
        self.assertEqual(shelf.many(), 0)
        told.append(shelf.put_leaf([(1, 1)]))
        self.assertEqual(told, sorted(set(told)))
        self.assertGreaterEqual(told[0], 0)

    def test_what_is_done_to_lists_behind_the_call_changes_nothing(self):
        shelf = Shelf()
        handed = rows_for([1, 2])
        number = shelf.put_leaf(handed)
        self.assertEqual(handed, rows_for([1, 2]))
        handed.append((0, 0))
        handed[0] = ("changed", 1)
        self.assertEqual(shelf.look(number), ("leaf", rows_for([1, 2])))
        self.assertEqual(shelf.label(number), (0, 1, 2, 2))
        shelf.look(number)[1].clear()
        shelf.look(number)[1].append("changed")
        self.assertEqual(shelf.look(number), ("leaf", rows_for([1, 2])))


class PutStemTest(TwigCase):
    def test_two_to_four_branches(self):
        for many in (2, 3, 4):
            shelf = Shelf()
            leaves = [put(shelf, [10 * at, 10 * at + 5]).number for at in range(4)]
            number = shelf.put_stem(leaves[:many])
            self.assertGreater(number, max(leaves))
            self.assertEqual(shelf.look(number), ("stem", leaves[:many]))
            self.assertEqual(shelf.label(number), (1, 0, 10 * many - 5, 2 * many))
            self.assert_held(shelf, number, 1, 1)
            for leaf in leaves[:many]:
                self.assert_held(shelf, leaf, 1, 0)
                self.assertIs(shelf.alone(leaf), True)
            for leaf in leaves[many:]:
                self.assert_held(shelf, leaf, 1, 1)

    def test_stems_of_stems(self):
        shelf = Shelf()
        tree = put(shelf, [[[1], [2, 3]], [["a"], ["b", ()], [(1,)]]])
        self.assertEqual(shelf.many(), 8)
        for twig in tree.twigs():
            self.assertEqual(shelf.label(twig.number), twig.label())
            if twig.parts:
                self.assertEqual(shelf.look(twig.number), ("stem", [part.number for part in twig.parts]))
        self.assertEqual(shelf.label(tree.number), (2, 1, (1,), 7))

    def test_branches_may_have_been_put_in_another_order(self):
        shelf = Shelf()
        last, first, middle = put(shelf, [9]).number, put(shelf, [1]).number, put(shelf, [5]).number
        number = shelf.put_stem([first, middle, last])
        self.assertEqual(shelf.look(number), ("stem", [first, middle, last]))
        self.assertEqual(shelf.label(number), (1, 1, 9, 3))

    def test_one_hold_of_each_branch_is_taken_over(self):
        shelf = Shelf()
        one, other = put(shelf, [1]).number, put(shelf, [2]).number
        shelf.hold(one)
        shelf.hold(one)
        shelf.put_stem([one, other])
        self.assert_held(shelf, one, 3, 2)
        self.assert_held(shelf, other, 1, 0)

    def test_none_one_and_five(self):
        shelf = Shelf()
        leaves = [put(shelf, [at]).number for at in range(6)]
        for many in (0, 1, 5, 6):
            self.assert_nothing_changed(shelf, NoStem(), shelf.put_stem, leaves[:many])

    def test_a_missing_number_is_refused_ahead_of_how_many_they_are(self):
        shelf = Shelf()
        leaves = [put(shelf, [at]).number for at in range(4)]
        gone = put(shelf, [7]).number
        shelf.let_go(gone)
        held = shelf.put_stem(leaves[2:])
        for missing in (gone, held + 1, held + 1000, -1, -4, 10 ** 70):
            for at in range(4):
                for numbers in ([], leaves[:1], leaves, leaves[::-1], leaves * 2, leaves[:1] * 3, [held] * 2 + leaves):
                    wrong = numbers[:at] + [missing] + numbers[at:] + [10 ** 80]
                    self.assert_nothing_changed(shelf, NoTwig(missing), shelf.put_stem, wrong)

    def test_of_two_missing_numbers_the_first_one(self):
        shelf = Shelf()
        leaf = put(shelf, [1]).number
        self.assert_refused(NoTwig(98), shelf.put_stem, [leaf, 98, 97, leaf])
        self.assert_refused(NoTwig(99), shelf.put_stem, [99, 98])

    def test_unlike_heights(self):
        shelf = Shelf()
        leaf, stem = put(shelf, [1]).number, put(shelf, [[2], [3]]).number
        higher, behind = put(shelf, [[[4], [5]], [[6], [7]]]).number, put(shelf, [8]).number
        for numbers in [[leaf, stem], [stem, higher], [stem, behind], [leaf, stem, higher], [leaf, stem, behind]]:
            self.assert_nothing_changed(shelf, NoStem(), shelf.put_stem, numbers)

    def test_keys_that_do_not_rise(self):
        shelf = Shelf()
        low, middle, over, high = [put(shelf, keys).number for keys in ([1, 3], [3, 5], [2, 9], [7, 8])]
        for numbers in [
            [low, middle], [middle, low], [low, over], [over, low], [high, low], [over, high], [low, high, middle],
            [low, high, low], [middle, high, low, over], [low, low], [low, high, high], [low, low, high],
        ]:
            self.assert_nothing_changed(shelf, NoStem(), shelf.put_stem, numbers)
        self.assertEqual(shelf.label(shelf.put_stem([low, high])), (1, 1, 8, 4))

    def test_the_same_branch_twice(self):
        shelf = Shelf()
        for shape in ([5], [5, 6], [[1], [2]]):
            number = put(shelf, shape).number
            shelf.hold(number)
            self.assert_nothing_changed(shelf, NoStem(), shelf.put_stem, [number, number])
            self.assert_nothing_changed(shelf, NoStem(), shelf.put_stem, [number] * 4)

    def test_not_held(self):
        shelf = Shelf()
        one, two, three, four = [put(shelf, [at]).number for at in range(4)]
        shelf.put_stem([one, three])
        for numbers, wanted in [
            ([one, two], one), ([two, three], three), ([one, three], one), ([two, three, four], three),
            ([one, two, three, four], one),
        ]:
            self.assert_nothing_changed(shelf, NotHeld(wanted), shelf.put_stem, numbers)
        for numbers in ([three, one], [one], [one, one], [one, two, three, four, one]):
            self.assert_nothing_changed(shelf, NoStem(), shelf.put_stem, numbers)
        shelf.hold(one)
        self.assert_nothing_changed(shelf, NotHeld(three), shelf.put_stem, [one, three])
        shelf.hold(three)
        shelf.put_stem([one, three])
        self.assert_held(shelf, one, 2, 0)
        self.assert_held(shelf, three, 2, 0)

    def test_what_is_done_to_lists_behind_the_call_changes_nothing(self):
        shelf = Shelf()
        leaves = [put(shelf, [at]).number for at in range(3)]
        handed = leaves[:2]
        number = shelf.put_stem(handed)
        self.assertEqual(handed, leaves[:2])
        handed.append(leaves[2])
        handed[0] = 99
        self.assertEqual(shelf.look(number), ("stem", leaves[:2]))
        shelf.look(number)[1].reverse()
        self.assertEqual(shelf.look(number), ("stem", leaves[:2]))
        self.assertEqual(shelf.label(number), (1, 0, 1, 2))
        shelf.let_go(number)
        self.assertEqual(shelf.numbers(), leaves[2:])


class HoldsTest(TwigCase):
    def test_several_holds_of_one_twig(self):
        shelf = Shelf()
        number = put(shelf, [1]).number
        for held in (2, 3, 4):
            self.assertIsNone(shelf.hold(number))
            self.assert_held(shelf, number, held, held)
            self.assertIs(shelf.alone(number), False)
        for held in (3, 2, 1):
            self.assertIsNone(shelf.let_go(number))
            self.assert_held(shelf, number, held, held)
        self.assertIs(shelf.alone(number), True)
        self.assertEqual(shelf.look(number), ("leaf", rows_for([1])))
        shelf.let_go(number)
        self.assertEqual(shelf.numbers(), [])
        self.assert_refused(NoTwig(number), shelf.let_go, number)

    def test_a_twig_in_two_stems(self):
        shelf = Shelf()
        one, both, other = [put(shelf, [at]).number for at in (1, 2, 3)]
        shelf.hold(both)
        first, second = shelf.put_stem([one, both]), shelf.put_stem([both, other])
        self.assert_held(shelf, both, 2, 0)
        self.assertIs(shelf.alone(both), False)
        self.assertIs(shelf.alone(one), True)
        self.assert_nothing_changed(shelf, NotHeld(both), shelf.let_go, both)
        shelf.let_go(first)
        self.assertEqual(shelf.numbers(), [both, other, second])
        self.assert_held(shelf, both, 1, 0)
        self.assertIs(shelf.alone(both), True)
        shelf.let_go(second)
        self.assertEqual(shelf.numbers(), [])

    def test_a_whole_tree_goes(self):
        shelf = Shelf()
        tree = put(shelf, [[[1], [2]], [[3], [4], [5]]])
        shelf.let_go(tree.number)
        self.assertEqual((shelf.numbers(), shelf.many()), ([], 0))

    def test_branches_that_somebody_else_holds_stay(self):
        shelf = Shelf()
        tree = put(shelf, [[[1], [2]], [[3], [4], [5]]])
        other = put(shelf, [9]).number
        left, right = tree.parts
        kept = right.parts[1].number
        shelf.hold(kept)
        shelf.hold(left.number)
        shelf.let_go(tree.number)
        self.assertEqual(shelf.numbers(), sorted(left.numbers() + [kept, other]))
        self.assert_held(shelf, kept, 1, 1)
        self.assert_held(shelf, left.number, 1, 1)
        self.assertEqual(shelf.look(left.number), ("stem", [part.number for part in left.parts]))
        self.assertEqual(shelf.label(left.number), (1, 1, 2, 2))
        for part in left.parts:
            self.assert_held(shelf, part.number, 1, 0)
        shelf.let_go(left.number)
        self.assertEqual(shelf.numbers(), [kept, other])
        shelf.let_go(kept)
        self.assertEqual(shelf.numbers(), [other])

    def test_a_twig_stays_while_a_stem_holds_it(self):
        shelf = Shelf()
        tree = put(shelf, [[1], [2]])
        leaf = tree.parts[0].number
        shelf.hold(leaf)
        self.assert_held(shelf, leaf, 2, 1)
        shelf.let_go(leaf)
        self.assertEqual(shelf.numbers(), tree.numbers())
        self.assert_held(shelf, leaf, 1, 0)

    def test_alone_where_the_holder_is_not(self):
        shelf = Shelf()
        tree = put(shelf, [[[1], [2]], [[3], [4]]])
        low, right = tree.parts[0], tree.parts[1]
        self.assertEqual([shelf.alone(number) for number in tree.numbers()], [True] * 7)
        shelf.hold(tree.number)
        self.assertEqual([shelf.alone(number) for number in tree.numbers()], [False] * 7)
        self.assert_held(shelf, low.parts[0].number, 1, 0)
        shelf.let_go(tree.number)
        shelf.hold(low.number)
        for twig in tree.twigs():
            self.assertIs(shelf.alone(twig.number), twig not in low.twigs())
        behind = put(shelf, [[5], [6]]).number
        top = shelf.put_stem([low.number, behind])
        for twig in tree.twigs():
            self.assertIs(shelf.alone(twig.number), twig not in low.twigs())
        self.assertIs(shelf.alone(top), True)
        shelf.let_go(tree.number)
        self.assertNotIn(right.number, shelf.numbers())
        for twig in low.twigs():
            self.assertIs(shelf.alone(twig.number), True)

    def test_not_held(self):
        shelf = Shelf()
        tree = put(shelf, [[[1], [2]], [[3], [4]]])
        for twig in tree.twigs()[1:]:
            self.assert_nothing_changed(shelf, NotHeld(twig.number), shelf.let_go, twig.number)
        shelf.let_go(tree.number)
        for twig in tree.twigs():
            self.assert_refused(NoTwig(twig.number), shelf.let_go, twig.number)


class LooksTest(TwigCase):
    def test_looks_in_order_each_as_often(self):
        shelf = Shelf()
        self.assertEqual(shelf.looked(), [])
        tree = put(shelf, [[1], [2]])
        first, second = [part.number for part in tree.parts]
        asked = [second, tree.number, second, second, first, tree.number]
        for place, number in enumerate(asked):
            shelf.look(number)
            self.assertEqual(shelf.looked(), asked[:place + 1])
        self.assertEqual(shelf.looked(), asked)
        self.assertIsNone(shelf.forget())
        self.assertEqual(shelf.looked(), [])
        shelf.forget()
        shelf.look(first)
        self.assertEqual(shelf.looked(), [first])

    def test_kinds(self):
        shelf = Shelf()
        tree = put(shelf, [[1], [2]])
        self.assertEqual(shelf.look(tree.number), ("stem", [part.number for part in tree.parts]))
        self.assertEqual(shelf.look(tree.parts[1].number), ("leaf", [(2, ("of", 2))]))
        self.assertIs(type(shelf.look(tree.number)), tuple)
        self.assertIs(type(shelf.label(tree.number)), tuple)

    def test_none_of_a_refused_look(self):
        shelf = Shelf()
        number = put(shelf, [1]).number
        shelf.look(number)
        for missing in (number + 1, -1, 50):
            self.assert_refused(NoTwig(missing), shelf.look, missing)
        self.assertEqual(shelf.looked(), [number])

    def test_nothing_else_is_a_look(self):
        shelf = Shelf()
        tree = put(shelf, [[[1], [3]], [[5], [7]]])
        leaf = tree.parts[0].parts[1].number
        new = put(shelf, [9]).number
        shelf.hold(tree.number)
        shelf.let_go(tree.number)
        shelf.change_leaf(leaf, rows_for([2, 4]))
        shelf.change_stem(tree.parts[1].number, [part.number for part in tree.parts[1].parts] + [new])
        for number in shelf.numbers():
            shelf.label(number), shelf.holders(number), shelf.outside(number), shelf.alone(number)
        shelf.many()
        shelf.let_go(tree.number)
        self.assertEqual(shelf.looked(), [])

    def test_looks_of_twigs_that_have_gone_are_still_told(self):
        shelf = Shelf()
        tree = put(shelf, [[1], [2]])
        for number in tree.numbers():
            shelf.look(number)
        shelf.let_go(tree.number)
        self.assertEqual(shelf.looked(), tree.numbers())
        self.assert_refused(NoTwig(tree.number), shelf.look, tree.number)
        self.assertEqual(shelf.looked(), tree.numbers())

    def test_told_lists_are_the_askers_own(self):
        shelf = Shelf()
        tree = put(shelf, [[1], [2]])
        shelf.look(tree.number)
        told = shelf.looked()
        shelf.look(tree.parts[0].number)
        self.assertEqual(told, [tree.number])
        told.clear()
        shelf.looked().append(99)
        self.assertEqual(shelf.looked(), [tree.number, tree.parts[0].number])
        kept = shelf.looked()
        shelf.forget()
        self.assertEqual(kept, [tree.number, tree.parts[0].number])
        numbers = shelf.numbers()
        numbers.clear()
        shelf.numbers().append(99)
        self.assertEqual(shelf.numbers(), tree.numbers())
        self.assertEqual(shelf.many(), 3)

    def test_numbers_rise_and_many_counts(self):
        shelf = Shelf()
        self.assertEqual((shelf.numbers(), shelf.many()), ([], 0))
        told = []
        for turn in range(30):
            told.append(put(shelf, [turn]).number)
        for number in told[::3]:
            shelf.let_go(number)
        left = [number for number in told if number not in told[::3]]
        self.assertEqual((shelf.numbers(), shelf.many()), (left, 20))

    def test_two_shelves_side_by_side(self):
        one, other = Shelf(), Shelf()
        tree = put(one, [[1], [2]])
        self.assertEqual((other.numbers(), other.many()), ([], 0))
        leaf = put(other, ["a"]).number
        before = shown(other)
        one.look(tree.number)
        one.hold(tree.number)
        one.let_go(tree.number)
        self.assertEqual((one.looked(), other.looked()), ([tree.number], []))
        other.look(leaf)
        one.forget()
        self.assertEqual((one.looked(), other.looked()), ([], [leaf]))
        one.let_go(tree.number)
        self.assertEqual((one.numbers(), other.numbers()), ([], [leaf]))
        self.assertEqual(shown(other), before)


class NoTwigTest(TwigCase):
    def test_each_function_that_takes_a_number(self):
        shelf = Shelf()
        tree = put(shelf, [[1], [2]])
        gone = put(shelf, [3]).number
        shelf.let_go(gone)
        shelf.hold(tree.number)
        for missing in (gone, gone + 1, -1, -3, 3000, 10 ** 70):
            wanted = NoTwig(missing)
            for deed in (
                shelf.hold, shelf.let_go, shelf.holders, shelf.outside, shelf.alone, shelf.look, shelf.label,
            ):
                self.assert_nothing_changed(shelf, wanted, deed, missing)
            for rows in (rows_for([1]), [], rows_for([2, 1]), [(None, 1)], [(1, None)] * 5):
                self.assert_nothing_changed(shelf, wanted, shelf.change_leaf, missing, rows)
            for numbers in (tree.numbers(), [], [missing + 1, 99], [tree.number] * 2, [tree.parts[0].number]):
                self.assert_nothing_changed(shelf, wanted, shelf.change_stem, missing, numbers)
            self.assert_nothing_changed(shelf, wanted, shelf.put_stem, [missing])

    def test_on_a_shelf_without_twigs(self):
        shelf = Shelf()
        for number in (0, 1, -1):
            self.assert_refused(NoTwig(number), shelf.look, number)
            self.assert_refused(NoTwig(number), shelf.label, number)
            self.assert_refused(NoTwig(number), shelf.hold, number)
            self.assert_refused(NoTwig(number), shelf.put_stem, [number])
        self.assertEqual(shelf.looked(), [])


if __name__ == "__main__":
    unittest.main()

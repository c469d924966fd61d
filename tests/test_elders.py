"""[80]: who comes from whom, by a dict of elders."""

import copy
import itertools
import random
import unittest

from twigmap.elders import bases, common, reach

# Two that have the same two elders, and one that has both of these.
CROSS = {0: [], 1: [0], 2: [0], 3: [1, 2], 4: [1, 2], 5: [3, 4], 6: [3], 7: [4, 2]}


def reach_plainly(elders, number):
    """From the greatest number down, as elders are less."""
    found = {number}
    for younger in sorted(elders, reverse=True):
        if younger in found:
            found.update(elders[younger])
    return sorted(found)


def common_plainly(elders, one, other):
    return [number for number in sorted(elders)
            if number in reach_plainly(elders, one) and number in reach_plainly(elders, other)]


def bases_plainly(elders, one, other):
    both = common_plainly(elders, one, other)
    return [number for number in both
            if not any(number != other and number in reach_plainly(elders, other) for other in both)]


def drawn(chance, many, most, apart=1):
    """Elders of so many numbers, drawn; the dict's order is drawn too."""
    numbers = [apart * at - many for at in range(many)]
    elders = {number: chance.sample(numbers[:at], chance.randint(0, min(at, most))) for at,
              number in enumerate(numbers)}
    chance.shuffle(numbers)
    return {number: elders[number] for number in numbers}


class ElderCase(unittest.TestCase):
    def ask(self, deed, wanted, elders, *numbers):
        """What is handed in stays, and a told list that the asker changes changes no later answer."""
        given = copy.deepcopy(elders)
        told = deed(elders, *numbers)
        self.assertEqual(told, wanted, numbers)
        self.assertIs(type(told), list)
        told.append("changed")
        told.reverse()
        self.assertEqual(elders, given)
        self.assertEqual(list(elders), list(given))
        self.assertEqual(deed(elders, *numbers), wanted)

    def ask_all(self, elders, pairs):
        for one, other in pairs:
            self.ask(reach, reach_plainly(elders, one), elders, one)
            self.ask(common, common_plainly(elders, one, other), elders, one, other)
            self.ask(bases, bases_plainly(elders, one, other), elders, one, other)
            self.assertEqual(common(elders, other, one), common(elders, one, other))
            self.assertEqual(bases(elders, other, one), bases(elders, one, other))


class ReachTest(ElderCase):
    def test_none_one_two_and_more(self):
        elders = {0: [], 1: [], 2: [0], 3: [0, 1], 4: [2, 3], 5: [], 6: [4, 1, 0], 7: [5, 4, 3, 2, 1, 0], 8: [5]}
        for number, wanted in [
            (0, [0]), (1, [1]), (2, [0, 2]), (3, [0, 1, 3]), (4, [0, 1, 2, 3, 4]), (5, [5]), (6, [0, 1, 2, 3, 4, 6]),
            (7, [0, 1, 2, 3, 4, 5, 7]), (8, [5, 8]),
        ]:
            self.ask(reach, wanted, elders, number)

    def test_each_once_and_rising(self):
        self.ask(reach, [0, 1, 2, 3, 4, 5], CROSS, 5)
        self.ask(reach, [0, 3], {0: [], 3: [0, 0, 0]}, 3)
        self.ask(reach, [2, 10, 9000], {9000: [10, 2], 10: [2], 2: []}, 9000)

    def test_a_long_row(self):
        elders = {number: [number - 1] if number else [] for number in range(3000)}
        self.ask(reach, list(range(3000)), elders, 2999)
        self.ask(reach, list(range(1501)), elders, 1500)
        self.ask(common, list(range(1501)), elders, 2999, 1500)
        self.ask(bases, [1500], elders, 1500, 2999)

    def test_a_row_of_crosses(self):
        """As many roads as nobody could go one by one."""
        elders = {0: [], 1: []}
        for number in range(2, 400, 2):
            elders[number] = elders[number + 1] = [number - 2, number - 1]
        self.ask(reach, list(range(399)), elders, 398)
        self.ask(common, list(range(398)), elders, 398, 399)
        self.ask(bases, [396, 397], elders, 398, 399)

    def test_wide_ones(self):
        elders = {number: [] for number in range(390)}
        elders.update({390: list(range(390)), 391: list(range(389, -1, -1)), 392: list(range(0, 390, 3))})
        self.ask(reach, list(range(391)), elders, 390)
        self.ask(common, list(range(390)), elders, 390, 391)
        self.ask(bases, list(range(390)), elders, 391, 390)
        self.ask(bases, list(range(0, 390, 3)), elders, 392, 390)


class CommonTest(ElderCase):
    def test_the_same_number_twice(self):
        for number in CROSS:
            self.ask(common, reach(CROSS, number), CROSS, number, number)
            self.ask(bases, [number], CROSS, number, number)

    def test_one_comes_from_the_other(self):
        for one, other in [(0, 5), (1, 3), (3, 5), (2, 7), (4, 7), (0, 1)]:
            for numbers in [(one, other), (other, one)]:
                self.ask(common, reach(CROSS, one), CROSS, *numbers)
                self.ask(bases, [one], CROSS, *numbers)

    def test_crosses(self):
        self.ask(common, [0, 1, 2], CROSS, 3, 4)
        self.ask(bases, [1, 2], CROSS, 3, 4)
        self.ask(bases, [1, 2], CROSS, 6, 7)
        self.ask(bases, [0], CROSS, 1, 2)
        self.ask(bases, [3], CROSS, 5, 6)
        self.ask(bases, [4], CROSS, 5, 7)

    def test_a_base_that_is_also_reached_by_a_long_road(self):
        """2 stands right above both, but a later common one comes from it."""
        elders = {0: [], 1: [0], 2: [1], 3: [2], 4: [3], 5: [4, 2], 6: [2, 4], 7: [1]}
        self.ask(common, [0, 1, 2, 3, 4], elders, 5, 6)
        self.ask(bases, [4], elders, 5, 6)
        self.ask(bases, [1], elders, 7, 6)

    def test_nothing_in_common(self):
        elders = {0: [], 1: [], 2: [0], 3: [1], 4: [2], 5: [3, 4]}
        for numbers in [(0, 1), (1, 0), (2, 3), (4, 3), (0, 3)]:
            self.ask(common, [], elders, *numbers)
            self.ask(bases, [], elders, *numbers)
        self.ask(common, [1, 3], elders, 5, 3)

    def test_several_bases_of_unlike_age(self):
        elders = {0: [], 1: [], 2: [1], 3: [2], 4: [3, 0], 5: [0, 3], 6: [4], 7: [5]}
        self.ask(common, [0, 1, 2, 3], elders, 6, 7)
        self.ask(bases, [0, 3], elders, 6, 7)

    def test_all_small_ones(self):
        """Every dict of four numbers, each pair of these."""
        choices = [[list(part) for size in range(many + 1) for part in itertools.combinations(range(many), size)]
                   for many in range(4)]
        for lists in itertools.product(*choices):
            self.ask_all(dict(enumerate(lists)), itertools.combinations_with_replacement(range(4), 2))

    def test_drawn_ones(self):
        chance = random.Random(80)
        for many, most, apart in [(8, 2, 1), (20, 2, 3), (20, 1, 1), (40, 3, 2), (60, 2, 1), (60, 12, 7)]:
            for _ in range(4):
                elders = drawn(chance, many, most, apart)
                self.ask_all(elders, [chance.choices(list(elders), k=2) for _ in range(12)])

    def test_lists_that_were_told_are_no_lists_of_the_dict(self):
        elders = {0: [], 1: [0], 2: [0, 1], 3: [2]}
        for told in [reach(elders, 0), reach(elders, 2), common(elders, 2, 1), common(elders, 3, 3),
                     bases(elders, 1, 2)]:
            for own in elders.values():
                self.assertIsNot(told, own)


if __name__ == "__main__":
    unittest.main()

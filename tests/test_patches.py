"""[62], [63]: what a patch is, and patches turned and put behind one another."""

import copy
import itertools
import random
import unittest

from audits import MANY, grown, some
from mixes import MixCase, in_order
from trees import NO_KEYS, TwigCase
from twigmap.differs import unlike
from twigmap.errors import Stale
from twigmap.patches import behind, patch_ok, turned
from twigmap.shelf import Shelf
from twigmap.tables import Table

# The outermost things that are still keys, and so values.
EDGES = [
    10 ** 60 - 1, 1 - 10 ** 60, "", "~" * 40, " ", (), (1, "2", (), (3,)), (1, (2, (3,))), (((),),),
    ("a" * 40, 10 ** 60 - 1, ((1, 2, 3, 4),), ()),
]
SIDES = [[], [1], [2], ["1"]]
CHANGES = [pair for pair in itertools.product(SIDES, repeat=2) if pair[0] != pair[1]]


def loop():
    """A list that stands in itself."""
    things = []
    things.append(things)
    return things


def nested(depth):
    thing = ()
    for _ in range(depth):
        thing = (thing,)
    return thing


WRONG = NO_KEYS + [nested(3), nested(5000), loop(), object(), Ellipsis, int, (1, (2, (3, (4,)))), ((1,), 1.5)]


def at_each_place(row_for):
    """Patches in which one row more stands ahead, between or behind; it is made of a key that fits there."""
    for at, key in enumerate([-6, 0, "n", ((),)]):
        rows = [(-5, [], [1]), ("m", [1], []), ((), [2], ["2"])]
        rows.insert(at, row_for(key))
        yield rows


class PatchOkTest(TwigCase):
    def assert_ok(self, rows, wanted):
        """Compared by what stands where, as not all things handed in can be held against one another."""
        given = self.all_of(rows)
        self.assertIs(patch_ok(rows), wanted)
        self.assertEqual(self.all_of(rows), given)

    def all_of(self, rows):
        parts = [part for row in rows for part in (row, *row)]
        return [id(part) for part in parts] + [id(thing) for row in rows for side in row[1:] for thing in side]

    def assert_ok_at_each_place(self, row_for, wanted):
        for rows in at_each_place(row_for):
            self.assert_ok(rows, wanted)

    def test_patches(self):
        for rows in [
            [], [(1, [], ["a"])], [(1, ["a"], [])], [(1, ["a"], ["b"])],
            [(0, [], [0]), ("", [0], []), ((), ["x"], ["y"])], [(-1, [()], [((),)]), (1, [], [()])],
        ]:
            self.assert_ok(rows, True)
        self.assert_ok_at_each_place(lambda key: (key, [], [key]), True)

    def test_many_rows_with_keys_of_all_kinds(self):
        for many in (1, 2, 10, 100, 400):
            rows = [(key, *CHANGES[at % len(CHANGES)]) for at, key in enumerate(MANY[:many])]
            self.assert_ok(rows, True)
            for at in some(range(many - 1), 7):
                self.assert_ok(rows[:at] + [rows[at + 1], rows[at]] + rows[at + 2:], False)
                self.assert_ok(rows[:at] + [rows[at]] + rows[at:], False)

    def test_the_edges_of_keys_and_values(self):
        for edge in EDGES:
            self.assert_ok([(edge, [], [1])], True)
            self.assert_ok([(1, [edge], [])], True)
            self.assert_ok([(1, [], [edge])], True)
            self.assert_ok([(1, [edge], [(7, 7)])], True)
            self.assert_ok([(1, [edge], [edge])], False)

    def test_keys_that_are_none(self):
        for wrong in WRONG:
            self.assert_ok([(wrong, [], [1])], False)
            self.assert_ok([(wrong, [], [1]), (wrong, [], [1])], False)
            self.assert_ok_at_each_place(lambda key: (wrong, [], [1]), False)

    def test_values_that_are_none(self):
        for wrong in WRONG:
            for sides in [([wrong], []), ([], [wrong]), ([wrong], [1]), ([1], [wrong]), ([wrong], [wrong])]:
                self.assert_ok([(1, *sides)], False)
                self.assert_ok_at_each_place(lambda key: (key, *sides), False)

    def test_sides_with_more_than_one_thing(self):
        for sides in [
            ([1, 2], []), ([], [1, 2]), ([1, 1], [1]), ([1], [1, 2]), ([1, 2], [2, 1]), ([1, 2], [1, 2]),
            ([], [1] * 400), ([1, 2, 3], [4]), ([True, None], []), ([], [None, [1]]),
        ]:
            self.assert_ok([(1, *sides)], False)
            self.assert_ok_at_each_place(lambda key: (key, *sides), False)

    def test_sides_that_are_alike(self):
        for side in [[], [1], ["1"], [()], [(1, ("a",))], [10 ** 59]]:
            self.assert_ok([(1, side, side)], False)
            self.assert_ok([(1, side, list(side))], False)
            self.assert_ok_at_each_place(lambda key: (key, side, list(side)), False)

    def test_sides_that_are_unlike_in_kind_alone(self):
        for one, other in itertools.product([1, "1", (1,), ("1",), ((1,),), "(1)"], repeat=2):
            self.assert_ok([(1, [one], [other])], repr(one) != repr(other))
        for one, other in itertools.permutations([0, "", (), ((),), "0", "()"], 2):
            self.assert_ok([(1, [one], [other])], True)
            self.assert_ok([(1, [one], []), (2, [], [other])], True)

    def test_keys_that_rise_and_such_as_dont(self):
        rising = [-7, 0, 1, 10, "", "0", "1", "10", "9", "a", "ab", (), (1,), (1, 0), ("1",), ((),)]
        for one, other in itertools.product(range(len(rising)), repeat=2):
            self.assert_ok([(rising[one], [], [1]), (rising[other], [], [1])], one < other)

    def test_what_unlike_tells(self):
        chance = random.Random(11)
        for many in (0, 1, 5, 50, 200):
            shelf = Shelf()
            tables = [grown(shelf, chance.sample(MANY, many)) for _ in range(2)] + [Table(shelf)]
            tables[1].put(7, "seven")
            for one, other in itertools.product(tables, repeat=2):
                self.assert_ok(unlike(shelf, one.root, other.root), True)


class TurnedTest(MixCase):
    def test_sides_turned(self):
        self.assertEqual(turned([]), [])
        self.assertEqual(
            turned([(1, [], ["a"]), ("k", ["b"], []), ((), ["c"], ["d"])]),
            [(1, ["a"], []), ("k", [], ["b"]), ((), ["d"], ["c"])],
        )

    def test_patches_up_to_many_rows(self):
        for many in (0, 1, 2, 30, 400):
            self.turned_audited([(key, *CHANGES[at % len(CHANGES)]) for at, key in enumerate(MANY[:many])])

    def test_the_told_lists_are_the_askers_own(self):
        patch = [(1, [], ["a"]), (2, ["b"], ["c"])]
        given = copy.deepcopy(patch)
        told = turned(patch)
        told[0][1].append("changed")
        told[1][2].clear()
        told.pop()
        self.assertEqual(patch, given)
        self.assertEqual(turned(patch), [(1, ["a"], []), (2, ["c"], ["b"])])
        told = turned(patch)
        patch[1][1].append("changed")
        patch.pop()
        self.assertEqual(told, [(1, ["a"], []), (2, ["c"], ["b"])])


class BehindTest(MixCase):
    def patch_of(self, keys, chance):
        return [(key, *copy.deepcopy(chance.choice(CHANGES))) for key in in_order(keys)]

    def following(self, patch, keys, chance):
        """A patch that can follow this one: where it has a row of a key its old side is that one's new side."""
        news = {key: new for key, _, new in patch}
        rows = []
        for key in in_order(keys):
            old = news.get(key, chance.choice(SIDES))
            rows.append((key, list(old), list(chance.choice([side for side in SIDES if side != old]))))
        return rows

    def test_rows_of_one_patch_alone(self):
        patch = [(1, [], ["a"]), ("a001", ["b"], []), ((), ["c"], ["d"])]
        self.assertEqual(behind([], []), [])
        self.assertEqual(behind(patch, []), patch)
        self.assertEqual(behind([], patch), patch)
        for rows in [[], patch]:
            self.behind_audited(rows, [])
            self.behind_audited([], rows)

    def test_keys_in_any_order(self):
        first, second = [(2, [], [1]), ("b", [1], [])], [(1, [], [3]), (3, [3], []), ((), [], [3])]
        wanted = [(1, [], [3]), (2, [], [1]), (3, [3], []), ("b", [1], []), ((), [], [3])]
        self.assertEqual(behind(first, second), wanted)
        self.assertEqual(behind(second, first), wanted)
        for parts in itertools.product((0, 1), repeat=6):
            rows = list(zip(parts, [-1, 2, "a001", "a002", (), (1,)]))
            first, second = [[(key, [], [part]) for part, key in rows if part == which] for which in (0, 1)]
            self.assertEqual(behind(first, second), [(key, [], [part]) for part, key in rows])
            self.behind_audited(first, second)

    def test_a_key_that_both_have(self):
        self.assertEqual(behind([(1, ["a"], ["b"])], [(1, ["b"], ["c"])]), [(1, ["a"], ["c"])])
        self.assertEqual(behind([(1, [], ["b"])], [(1, ["b"], ["c"])]), [(1, [], ["c"])])
        self.assertEqual(behind([(1, ["a"], ["b"])], [(1, ["b"], [])]), [(1, ["a"], [])])
        self.assertEqual(behind([(1, ["a"], [])], [(1, [], ["c"])]), [(1, ["a"], ["c"])])
        self.assertEqual(behind([(1, ["a"], [])], [(1, [], ["a"])]), [])
        self.assertEqual(behind([(1, [], ["a"])], [(1, ["a"], [])]), [])
        self.assertEqual(behind([(1, ["a"], ["b"])], [(1, ["b"], ["a"])]), [])
        self.assertEqual(behind([(1, [1], ["b"])], [(1, ["b"], ["1"])]), [(1, [1], ["1"])])

    def test_each_pair_of_changes(self):
        for first, second in itertools.product(CHANGES, repeat=2):
            told = self.behind_audited([(5, *first)], [(5, *second)])
            self.assertEqual(told is None, first[1] != second[0])
            ones = [(4, [], [1]), (5, *first), ("a001", [1], [])]
            self.behind_audited(ones, [(3, [], [1]), (5, *second), ("a002", [1], [])])

    def test_all_pairs_that_can_follow_in_one_patch(self):
        pairs = [(one, two) for one, two in itertools.product(CHANGES, repeat=2) if one[1] == two[0]]
        first = [(key, *one) for key, (one, _) in zip(MANY, pairs)]
        second = [(key, *two) for key, (_, two) in zip(MANY, pairs)]
        told = self.behind_audited(first, second)
        self.assertEqual(len(told), len([pair for pair in pairs if pair[0][0] != pair[1][1]]))

    def test_stale_tells_the_first_key(self):
        keys = [1, 3, "a001", "a003", (5,)]
        first = [(key, [], ["new"]) for key in keys]
        for wrong in itertools.product((False, True), repeat=5):
            second = [(key, ["old"] if bad else ["new"], ["newer"]) for key, bad in zip(keys, wrong)]
            second.insert(1, (2, ["elsewhere"], []))
            if any(wrong):
                self.assert_refused(Stale(keys[wrong.index(True)]), behind, first, second)
            self.behind_audited(first, second)

    def test_stale_where_the_sides_are_unlike_in_kind_alone(self):
        for one, other in itertools.permutations([1, "1", (1,), ("1",)], 2):
            self.assert_refused(Stale(7), behind, [(7, [], [one])], [(7, [other], [])])
        self.assert_refused(Stale(7), behind, [(7, [1], [])], [(7, [()], [])])
        self.assert_refused(Stale(7), behind, [(7, [1], [()])], [(7, [], [1])])

    def test_keys_that_are_unlike_in_kind_alone(self):
        first, second = [(1, [], ["a"])], [("1", [], ["b"]), ((1,), [], ["c"])]
        self.assertEqual(behind(first, second), first + second)
        self.assertEqual(behind(second, first), first + second)

    def test_a_patch_and_the_same_one_turned(self):
        patch = [(key, *CHANGES[at % len(CHANGES)]) for at, key in enumerate(MANY)]
        self.assertEqual(self.behind_audited(patch, turned(patch)), [])
        self.assertEqual(self.behind_audited(turned(patch), patch), [])
        self.assert_refused(Stale(MANY[0]), behind, patch, patch)

    def test_long_patches(self):
        chance = random.Random(12)
        for many in (1, 3, 20, 150, 400):
            for _ in range(10):
                keys = MANY[:2 * many]
                first = self.patch_of(chance.sample(keys, chance.randrange(min(many, len(keys)) + 1)), chance)
                second = self.following(first, chance.sample(keys, chance.randrange(min(many, len(keys)) + 1)), chance)
                self.assertIsNotNone(self.behind_audited(first, second))
                self.behind_audited(first, self.patch_of(chance.sample(keys, many // 2 + 1), chance))

    def test_three_patches_either_way(self):
        chance = random.Random(13)
        for _ in range(30):
            patches = [self.patch_of(chance.sample(MANY[:30], 15), chance)]
            patches.append(self.following(patches[0], chance.sample(MANY[:30], 15), chance))
            # A key that only the first has comes to the third through both.
            patches.append(self.following(behind(*patches), [key for key, _, _ in behind(*patches)][::2], chance))
            first = behind(behind(patches[0], patches[1]), patches[2])
            self.assertEqual(first, behind(patches[0], behind(patches[1], patches[2])))

    def test_the_told_lists_are_the_askers_own(self):
        first, second = [(1, [], ["a"]), (2, ["b"], ["c"])], [(2, ["c"], ["d"]), (3, ["e"], [])]
        given = copy.deepcopy((first, second))
        wanted = [(1, [], ["a"]), (2, ["b"], ["d"]), (3, ["e"], [])]
        told = behind(first, second)
        for row in told:
            row[1].append("changed")
            row[2].append("changed")
        told.clear()
        self.assertEqual((first, second), given)
        told = behind(first, second)
        self.assertEqual(told, wanted)
        for row in first + second:
            row[1].append("changed")
            row[2].append("changed")
        first.clear()
        self.assertEqual(told, wanted)


if __name__ == "__main__":
    unittest.main()

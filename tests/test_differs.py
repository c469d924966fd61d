"""[60], [61]: what is unlike below two roots, and at which twigs is looked for it."""

import collections
import itertools
import random
import unittest

from audits import MANY, UNEVEN, Picture, grown, slender, some
from mixes import unlike_plainly
from parts import spiny
from trees import MISSING, PLACES, PLANS, RISING, TwigCase, looks_of, planted, put, rows_for, shape_of, shown
from twigmap.bonds import bonded
from twigmap.cuts import cut, gapped, span
from twigmap.differs import alike, shared, unlike
from twigmap.errors import NoTwig
from twigmap.fills import filled
from twigmap.shelf import Shelf
from twigmap.tables import Table


def tops(picture, one, other):
    """As [61] says it: of what both reach, the roots and the branches of what just one of them reaches."""
    reach = [set(picture.reach(root)) for root in (one, other)]
    beneath = {branch for number in reach[0] ^ reach[1] for branch in picture.branches(number)}
    found = reach[0] & reach[1] & (beneath | {one, other})
    return sorted(found, key=lambda number: PLACES[picture.labels[number][1]])


class DifferCase(TwigCase):
    def compare(self, shelf, one, other):
        """All of [60] and [61] for two roots, either way round; told is how much is shared."""
        picture = Picture(shelf)
        self.compare_once(shelf, picture, one, other)
        self.compare_once(shelf, picture, other, one)
        self.assertEqual(Picture(shelf), picture)
        return len(tops(picture, one, other))

    def compare_once(self, shelf, picture, one, other):
        reach = [set(picture.reach(root)) for root in (one, other)]
        apart = sorted(reach[0] ^ reach[1])
        wanted = unlike_plainly(dict(picture.rows(one)), dict(picture.rows(other)))
        told, looks = looks_of(shelf, unlike, one, other)
        self.assertEqual(told, wanted)
        self.assertIs(type(told), list)
        self.assertEqual(sorted(looks), apart)
        told, looks = looks_of(shelf, alike, one, other)
        self.assertIs(told, wanted == [])
        self.assert_no_others(looks, apart)
        told, looks = looks_of(shelf, shared, one, other)
        self.assertEqual(told, tops(picture, one, other))
        self.assert_no_others(looks, apart)
        below = collections.Counter(number for top in told for number in picture.reach(top))
        self.assertEqual(below, collections.Counter(reach[0] & reach[1]))

    def assert_no_others(self, looks, apart):
        self.assertEqual(len(looks), len(set(looks)))
        self.assertLessEqual(set(looks), set(apart))


class UnlikeTest(DifferCase):
    def test_no_rows(self):
        shelf, tree = planted([[1, 2], [3, 4, 1]])
        self.compare(shelf, None, None)
        self.assertEqual(unlike(shelf, None, None), [])
        self.assertIs(alike(shelf, None, None), True)
        self.assertEqual(shared(shelf, None, None), [])
        self.compare(shelf, tree.number, None)
        self.assertEqual(unlike(shelf, tree.number, None), [(key, [value], []) for key, value in tree.rows])
        self.assertEqual(unlike(shelf, None, tree.number), [(key, [], [value]) for key, value in tree.rows])
        self.assertIs(alike(shelf, None, tree.number), False)

    def test_one_root_twice(self):
        for plan in PLANS:
            shelf, tree = planted(plan)
            for twig in tree.twigs():
                self.compare(shelf, twig.number, twig.number)
                shelf.forget()
                self.assertEqual(unlike(shelf, twig.number, twig.number), [])
                self.assertIs(alike(shelf, twig.number, twig.number), True)
                self.assertEqual(shared(shelf, twig.number, twig.number), [twig.number])
                self.assertEqual(shelf.looked(), [])

    def test_the_twig_with_number_0(self):
        shelf = Shelf()
        zero = shelf.put_leaf([(1, "a")])
        one = shelf.put_leaf([(1, "b"), (2, "c")])
        self.assertEqual(unlike(shelf, zero, one), [(1, ["a"], ["b"]), (2, [], ["c"])])
        self.assertEqual(unlike(shelf, zero, None), [(1, ["a"], [])])
        self.assertEqual(shared(shelf, zero, zero), [0])
        self.compare(shelf, zero, one)

    def test_values_that_are_alike_and_such_as_are_not(self):
        shelf = Shelf()
        values = [1, "1", (1,), ("1",), (), "", 0, (0,), ((),), "0"]
        for value, other in itertools.product(values, repeat=2):
            roots = [shelf.put_leaf([(5, one)]) for one in (value, other)]
            told = unlike(shelf, *roots)
            self.assertEqual(told, [] if repr(value) == repr(other) else [(5, [value], [other])])
            self.assertIs(alike(shelf, *roots), repr(value) == repr(other))

    def test_keys_of_all_kinds_rise(self):
        shelf = Shelf()
        one, other = filled(shelf, rows_for(MANY[::2])), filled(shelf, rows_for(MANY[1::2]))
        self.compare(shelf, one.root, other.root)
        self.assertEqual([key for key, _, _ in unlike(shelf, one.root, other.root)], MANY)

    def test_the_same_rows_in_other_leaves(self):
        plans = [8, [4, 4], [1, 3, 4], [[2, 2], [2, 2]], [[1, 1], [1, 1], [1, 1, 2]], slender(3), [[1, 1, 1], [1, 4]]]
        shelf = Shelf()
        keys = RISING[100:108]
        roots = [put(shelf, shape_of(plan, iter(keys))).number for plan in plans[1:]]
        for one, other in itertools.combinations(roots, 2):
            self.compare(shelf, one, other)
            self.assertIs(alike(shelf, one, other), True)
            self.assertEqual((unlike(shelf, one, other), shared(shelf, one, other)), ([], []))

    def test_the_same_rows_by_other_roads(self):
        shelf = Shelf()
        chance = random.Random(7)
        for many in (1, 5, 40, 200):
            keys = MANY[:many]
            tables = [grown(shelf, keys), grown(shelf, keys[::-1]), grown(shelf, chance.sample(keys, many))]
            tables.append(filled(shelf, rows_for(keys)))
            for one, other in itertools.combinations(tables, 2):
                self.compare(shelf, one.root, other.root)
                self.assertIs(alike(shelf, one.root, other.root), True)
            for table in tables:
                table.clear()

    def test_trees_that_share_nothing(self):
        chance = random.Random(4)
        plans = PLANS[:-1] + UNEVEN
        for one, other in itertools.product(some(plans, 12), repeat=2):
            shelf, tree = planted(one)
            more = put(shelf, shape_of(other, iter(sorted(chance.sample(RISING, 60), key=PLACES.get))))
            self.compare(shelf, tree.number, more.number)


class ForkTest(DifferCase):
    def test_one_row_put_or_taken(self):
        shelf = Shelf()
        for table in (grown(shelf, MANY[:300:2]), filled(shelf, rows_for(MANY[:300:2]))):
            for key in some(MANY[:300], 25):
                fork = table.fork()
                fork.put(key, "new")
                self.assertEqual(self.compare(shelf, table.root, fork.root) > 0, True)
                way = set(table.twigs()) - set(fork.twigs())
                self.assertLessEqual(len(way), 7)
                self.assertEqual(unlike(shelf, table.root, fork.root), [(key, table.side(key), ["new"])])
                fork.take(key)
                self.compare(shelf, table.root, fork.root)
                wanted = [(key, side, []) for side in [table.side(key)] if side]
                self.assertEqual(unlike(shelf, table.root, fork.root), wanted)
                fork.clear()

    def test_a_row_put_and_the_old_one_again(self):
        """The twigs on the way are others, but no row is."""
        shelf = Shelf()
        table = grown(shelf, MANY[:100])
        fork = table.fork()
        fork.put(MANY[50], "new")
        fork.put(MANY[50], ("of", MANY[50]))
        self.compare(shelf, table.root, fork.root)
        self.assertIs(alike(shelf, table.root, fork.root), True)
        self.assertNotEqual(table.root, fork.root)

    def test_many_rows_changed(self):
        chance = random.Random(8)
        for many in (1, 3, 10, 60, 200, 400):
            for changes in (1, 2, 5, 20, 100):
                shelf = Shelf()
                table = grown(shelf, chance.sample(MANY[:many], many))
                fork = table.fork()
                for _ in range(changes):
                    fork.put(chance.choice(RISING), "new")
                    if fork.count():
                        fork.take(chance.choice(fork.rows())[0])
                self.compare(shelf, table.root, fork.root)

    def test_a_fork_that_lost_most_of_its_rows(self):
        """So it is less high, and what both reach stands at unlike depths."""
        for keep in (1, 2, 4, 9, 30):
            for start in (0, 40, 99):
                shelf = Shelf()
                table = grown(shelf, MANY[:130])
                fork = table.fork()
                for place, key in enumerate(MANY[:130]):
                    if not start <= place < start + keep:
                        fork.take(key)
                self.compare(shelf, table.root, fork.root)
                self.assertLess(shelf.label(fork.root)[0], shelf.label(table.root)[0])

    def test_long_lines_of_forks(self):
        chance = random.Random(9)
        shelf = Shelf()
        line = [grown(shelf, MANY[::4])]
        for _ in range(12):
            fork = line[-1].fork()
            for _ in range(chance.randrange(1, 9)):
                fork.put(chance.choice(MANY), chance.choice(MANY))
                fork.take(chance.choice(fork.rows())[0])
            line.append(fork)
        for one, other in itertools.combinations(line, 2):
            self.compare(shelf, one.root, other.root)


class SharedTest(DifferCase):
    def test_all_twigs_of_a_tree(self):
        for plan in PLANS[4:-1] + UNEVEN[:3] + [slender(4)]:
            shelf, tree = planted(plan)
            numbers = some([twig.number for twig in tree.twigs()], 16)
            for one, other in itertools.combinations(numbers, 2):
                self.compare(shelf, one, other)

    def test_one_root_within_the_other(self):
        for plan in (spiny(4, 0), spiny(4, -1), [[[4] * 4] * 3] * 3):
            shelf, tree = planted(plan)
            for twig in some(tree.twigs()[1:], 20):
                self.compare(shelf, tree.number, twig.number)
                self.assertEqual(shared(shelf, tree.number, twig.number), [twig.number])
                self.assertEqual(shared(shelf, twig.number, tree.number), [twig.number])

    def test_shared_at_unlike_heights_below_the_roots(self):
        shelf = Shelf()
        keys = iter(RISING)
        ahead = Table(shelf, put(shelf, shape_of(spiny(4, -1), keys)).number)
        middle = put(shelf, shape_of([[2, 1], [1, 3]], keys))
        behind = Table(shelf, put(shelf, shape_of(spiny(3, 0), keys)).number)
        for inner in [middle] + middle.twigs()[1:]:
            shelf.hold(inner.number)
            table = Table(shelf, inner.number)
            one, other = bonded(ahead, table), bonded(table, behind)
            self.assertEqual(self.compare(shelf, one.root, other.root), 1)
            self.assertEqual(shared(shelf, one.root, other.root), [inner.number])
            self.compare(shelf, one.root, table.root)
            self.compare(shelf, one.root, ahead.root)
            self.compare(shelf, behind.root, other.root)
            for gone in (table, one, other):
                gone.clear()

    def test_parts_of_a_table(self):
        shelf = Shelf()
        table = filled(shelf, rows_for(MANY[:300]))
        for low, high in itertools.combinations(some(MANY[:300], 6), 2):
            told = [*cut(table, low), span(table, low, high), gapped(table, low, high)]
            for one, other in itertools.combinations([table] + told, 2):
                self.compare(shelf, one.root, other.root)
            for part in told:
                part.clear()

    def test_stems_that_neither_reaches(self):
        """A third one's branches are no tops for that."""
        shelf, tree = planted([[1, 2], [3, 4], [1, 1]])
        fork = Table(shelf, tree.number).fork()
        fork.take(tree.keys[-1])
        inner = tree.parts[0]
        for part in inner.parts:
            shelf.hold(part.number)
        shelf.put_stem([part.number for part in inner.parts])
        self.compare(shelf, tree.number, fork.root)
        self.assertEqual(shared(shelf, tree.number, fork.root)[0], inner.number)

    def test_stems_of_the_askers_own_over_twigs_of_tables(self):
        chance = random.Random(6)
        shelf = Shelf()
        table = filled(shelf, rows_for(MANY[:200]))
        picture = Picture(shelf)
        roots = [table.root]
        for _ in range(25):
            height = chance.randrange(3)
            row = [number for number in picture.reach(table.root) if picture.height(number) == height]
            places = sorted(chance.sample(range(len(row)), min(len(row), chance.randrange(2, 5))))
            for place in places:
                shelf.hold(row[place])
            roots.append(shelf.put_stem([row[place] for place in places]))
        for one, other in itertools.combinations(roots, 2):
            self.compare(shelf, one, other)


class AnswersTest(DifferCase):
    def test_lists_are_the_askers_own(self):
        shelf = Shelf()
        table = grown(shelf, MANY[:60])
        fork = table.fork()
        fork.put(MANY[3], "new")
        fork.take(MANY[30])
        before = shown(shelf)
        for deed in (unlike, shared):
            wanted = deed(shelf, table.root, fork.root)
            told = deed(shelf, table.root, fork.root)
            for row in told if deed is unlike else []:
                row[1].append("changed")
                row[2].clear()
            told.reverse()
            told.append("changed")
            self.assertEqual(deed(shelf, table.root, fork.root), wanted)
        self.assertEqual(shown(shelf), before)
        self.assertEqual(fork.side(MANY[3]), ["new"])
        same = shared(shelf, table.root, table.root)
        same.append(5)
        self.assertEqual(shared(shelf, table.root, table.root), [table.root])

    def test_each_answer_has_lists_of_its_own(self):
        shelf = Shelf()
        roots = [shelf.put_leaf([(1, "a"), (2, "a")]), shelf.put_leaf([(3, "a")])]
        sides = [side for row in unlike(shelf, *roots) + unlike(shelf, *roots) for side in row[1:]]
        self.assertEqual(len({id(side) for side in sides}), 12)
        for row in unlike(shelf, *roots):
            self.assertEqual([type(part) for part in row], [int, list, list])
            self.assertIs(type(row), tuple)

    def test_refusals(self):
        shelf, tree = planted([[1, 2], [3, 1]])
        gone = put(shelf, [5]).number
        shelf.let_go(gone)
        missing = MISSING + [gone]
        for deed in (unlike, alike, shared):
            for number in missing:
                for right in [None, tree.number, tree.leaves()[0]]:
                    self.assert_nothing_changed(shelf, NoTwig(number), deed, shelf, number, right)
                    self.assert_nothing_changed(shelf, NoTwig(number), deed, shelf, right, number)
                for other in missing:
                    self.assert_nothing_changed(shelf, NoTwig(number), deed, shelf, number, other)
            self.assert_refused(NoTwig(0), deed, Shelf(), 0, None)
            self.assert_refused(NoTwig(0), deed, Shelf(), None, 0)


if __name__ == "__main__":
    unittest.main()

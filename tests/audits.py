"""What the tests of tables share: pictures of a shelf, and all that is asked of a put or take by these."""

import collections
import itertools

from trees import PLACES, RISING, TwigCase
from twigmap.puts import put_in
from twigmap.shelf import Shelf
from twigmap.tables import Table
from twigmap.takes import taken_from

# As many keys as a table may have rows, of all kinds.
MANY = [RISING[at * len(RISING) // 400] for at in range(400)]

# All stems of two to four stems of two to four leaves of one row: from each a leaf may go with all that follows.
TWO_HIGH = [[[1] * many for many in parts] for wide in (2, 3, 4) for parts in itertools.product((2, 3, 4), repeat=wide)]
UNEVEN = [
    [[[1, 1], [1, 1]], [[1, 1], [1] * 4]], [[[1, 1], [1] * 4], [[1, 1], [1, 1]]],
    [[[1] * 4, [1, 1]], [[1, 1], [1, 1, 1]], [[4, 4], [1, 1]]],
    [[[1, 1]] * 4, [[1, 1], [1, 1]]], [[[1, 1], [1, 1]], [[1, 1]] * 4], [[[1, 1], [1] * 4], [[1, 1]] * 4],
    [[[1, 2], [2, 1]], [[1] * 4, [4] * 4, [1, 1]], [[1, 1]] * 3, [[3, 1], [1, 1, 1]]],
]


def slender(height):
    """As high as so few rows may be."""
    return [slender(height - 1)] * 2 if height else 1


def grown(shelf, keys):
    table = Table(shelf)
    for key in keys:
        table.put(key, ("of", key))
    return table


def some(things, many):
    """So many of a list at most, from all over it, the first and the last among them."""
    if len(things) <= many:
        return list(things)
    return [things[at * (len(things) - 1) // (many - 1)] for at in range(many)]


class NotingShelf(Shelf):
    """Notes each twig that is put, also such as go again at once."""

    def __init__(self):
        Shelf.__init__(self)
        self.puts = []

    def put_leaf(self, rows):
        self.puts.append(rows)
        return Shelf.put_leaf(self, rows)

    def put_stem(self, numbers):
        self.puts.append(numbers)
        return Shelf.put_stem(self, numbers)


class Picture:
    """A shelf as it was at one time; what its twigs reach is reckoned from what a look tells alone."""

    def __init__(self, shelf):
        self.found = {number: shelf.look(number) for number in shelf.numbers()}
        self.labels = {number: shelf.label(number) for number in self.found}
        self.holders = {number: shelf.holders(number) for number in self.found}
        self.outside = {number: shelf.outside(number) for number in self.found}
        shelf.forget()

    def __eq__(self, other):
        return vars(self) == vars(other)

    def branches(self, number):
        kind, things = self.found[number]
        return things if kind == "stem" else []

    def reach(self, root):
        if root is None:
            return []
        return [root] + [number for branch in self.branches(root) for number in self.reach(branch)]

    def leaves(self, root):
        return [number for number in self.reach(root) if not self.branches(number)]

    def rows(self, root):
        return [row for leaf in self.leaves(root) for row in self.found[leaf][1]]

    def height(self, number):
        branches = self.branches(number)
        return 1 + self.height(branches[0]) if branches else 0

    def way(self, root, key):
        if root is None:
            return []
        begun = [one for one in self.branches(root) if PLACES[self.labels[one][1]] <= PLACES[key]]
        following = begun[-1:] or self.branches(root)[:1]
        return [root] + (self.way(following[0], key) if following else [])

    def holds(self):
        """The numbers held from without, each as often as it is held."""
        return sorted(number for number in self.outside for _ in range(self.outside[number]))

    def reached_by(self, held):
        return {number for root in held for number in self.reach(root)}


class Bare:
    """A root of which the asker has a hold, with put_in and taken_from by themselves."""

    def __init__(self, shelf, root):
        self.shelf = shelf
        self.root = root

    def put(self, key, value):
        self.root = put_in(self.shelf, self.root, key, value)

    def take(self, key):
        self.root = taken_from(self.shelf, self.root, key)


def others_than(held, root):
    left = list(held)
    if root is not None:
        left.remove(root)
    return left


class AuditCase(TwigCase):
    def place(self, key):
        return PLACES[key]

    def assert_even(self, picture):
        """[20], [21]: leaves, stems, labels and holders, each reckoned anew."""
        stems_over = collections.Counter(one for number in picture.found for one in picture.branches(number))
        for number, (kind, things) in picture.found.items():
            rows = picture.rows(number)
            places = [self.place(key) for key, _ in rows]
            self.assertTrue(all(place < following for place, following in zip(places, places[1:])))
            self.assertIn(len(things), (1, 2, 3, 4) if kind == "leaf" else (2, 3, 4))
            self.assertLessEqual(len({picture.height(branch) for branch in picture.branches(number)}), 1)
            label = (picture.height(number), rows[0][0], rows[-1][0], len(rows))
            self.assertEqual(picture.labels[number], label)
            self.assertEqual(picture.holders[number], picture.outside[number] + stems_over[number])
            self.assertGreater(picture.holders[number], 0)

    def put_audited(self, table, key, value):
        before = Picture(table.shelf)
        root = table.root
        told = table.put(key, value)
        after = Picture(table.shelf)
        rows = dict(before.rows(root))
        changed = rows.get(key, None) != value
        rows[key] = value
        self.assert_deed(before, root, after, table.root, rows, changed)
        gone = set(before.reach(root)) - set(after.reach(table.root))
        self.assertLessEqual(gone, before.reached_by(others_than(before.holds(), root)))
        self.assertLessEqual(gone, set(before.way(root, key)))
        if not isinstance(table, Bare):
            self.assertIs(told, changed)
        return changed

    def take_audited(self, table, key):
        before = Picture(table.shelf)
        root = table.root
        told = table.take(key)
        after = Picture(table.shelf)
        rows = dict(before.rows(root))
        side = [rows.pop(key)] if key in rows else []
        self.assert_deed(before, root, after, table.root, rows, side != [])
        gone = set(before.reach(root)) - set(after.reach(table.root))
        heights = [before.height(number) for number in gone]
        for height in set(heights):
            self.assertLessEqual(heights.count(height), 3)
        if not isinstance(table, Bare):
            self.assertEqual(told, side)
            self.assertIs(type(told), list)
        return side != []

    def assert_deed(self, before, root, after, new_root, rows, changed):
        """What [40], [42] and [43] ask of puts and takes alike."""
        self.assertEqual(after.rows(new_root), sorted(rows.items(), key=lambda row: PLACES[row[0]]))
        if not changed:
            self.assertEqual(after, before)
            self.assertEqual(new_root, root)
            return
        self.assert_even(after)
        others = others_than(before.holds(), root)
        self.assertEqual(others_than(after.holds(), new_root), others)
        reached = before.reached_by(others)
        for number in reached:
            self.assertEqual(after.found.get(number), before.found[number])
            self.assertEqual(after.labels[number], before.labels[number])
        old, new = set(before.reach(root)), set(after.reach(new_root))
        self.assertEqual(set(after.found), reached | new)
        shared = old & reached
        self.assertLessEqual(len(new - old), max(0, len(new) - len(old)) + len(shared - new))
        if not shared:
            self.assertEqual(len(new - old), max(0, len(new) - len(old)))
        self.assertFalse([number for number in new - old if number <= max(before.found, default=-1)])

"""What the tests of patches, joins and lays share: plain reckonings, and all that is asked of each call."""

import copy
import random

from audits import MANY, Picture, grown
from parts import PartCase
from trees import place_plainly, rows_for
from twigmap.bonds import bonded
from twigmap.cuts import cut, gapped, span
from twigmap.errors import Stale
from twigmap.fills import filled
from twigmap.joins import joined
from twigmap.lays import laid, less, met
from twigmap.patches import behind, done, patch_ok, turned
from twigmap.shelf import Shelf
from twigmap.tables import Table

# The word to keep by where one and other are turned about.
SWAPPED = {"base": "base", "one": "other", "other": "one"}


def kin(seed):
    """Tables on one shelf that share all, much, little and nothing."""
    chance = random.Random(seed)
    shelf = Shelf()
    table = grown(shelf, chance.sample(MANY[:60], 40))
    forks = [table.fork() for _ in range(4)]
    for fork, many in zip(forks, (0, 1, 8, 40)):
        for key in chance.sample(MANY[:60], many):
            fork.put(key, chance.choice(["x", "y"]))
            fork.take(chance.choice(MANY[:60]))
    parts = cut(forks[1], MANY[25])
    tail = span(forks[2], MANY[25], MANY[60])
    return [
        Table(shelf), table, *forks, *parts, tail, bonded(parts[0], tail), gapped(table, MANY[5], MANY[33]),
        filled(shelf, table.rows()), filled(shelf, [(key, "x") for key in MANY[:9]]),
        filled(shelf, rows_for(MANY[:120:5])),
    ]


def in_order(keys):
    return sorted(keys, key=place_plainly)


def in_rows(rows):
    return [(key, rows[key]) for key in in_order(rows)]


def side_in(rows, key):
    return [rows[key]] if key in rows else []


def unlike_plainly(one, other):
    """What is unlike in two dicts of rows."""
    sides = [(key, side_in(one, key), side_in(other, key)) for key in in_order({*one, *other})]
    return [row for row in sides if row[1] != row[2]]


def stale_plainly(first, second):
    """All keys at which the second can't follow the first."""
    olds = {key: old for key, old, _ in second}
    return [key for key, _, new in first if key in olds and olds[key] != new]


def behind_plainly(first, second):
    """[63] word by word, of patches of which the second can follow the first."""
    firsts, seconds = [{key: (old, new) for key, old, new in patch} for patch in (first, second)]
    rows = []
    for key in in_order({*firsts, *seconds}):
        if key not in seconds:
            rows.append((key, *firsts[key]))
        elif key not in firsts:
            rows.append((key, *seconds[key]))
        elif firsts[key][0] != seconds[key][1]:
            rows.append((key, firsts[key][0], seconds[key][1]))
    return rows


def joined_plainly(base, one, other, keep):
    """[71] word by word, of three dicts; told are the rows and the clashes."""
    rows, clashes = {}, []
    for key in in_order({*base, *one, *other}):
        sides = {"base": side_in(base, key), "one": side_in(one, key), "other": side_in(other, key)}
        if sides["one"] == sides["base"]:
            stands = sides["other"]
        elif sides["other"] == sides["base"]:
            stands = sides["one"]
        elif sides["one"] == sides["other"]:
            stands = sides["one"]
        else:
            stands = sides[keep]
            clashes.append((key, sides["base"], sides["one"], sides["other"]))
        for value in stands:
            rows[key] = value
    return rows, clashes


class MixCase(PartCase):
    def dict_of(self, table):
        return dict(Picture(table.shelf).rows(table.root))

    def turned_audited(self, patch):
        given = copy.deepcopy(patch)
        told = turned(patch)
        self.assertEqual(told, [(key, new, old) for key, old, new in patch])
        self.assertIs(patch_ok(told), True)
        self.assertEqual(turned(told), patch)
        self.assert_own_patch(told, [patch])
        self.assertEqual(patch, given)
        return told

    def behind_audited(self, first, second):
        """Told is the patch, None where the second can't follow the first."""
        given = copy.deepcopy((first, second))
        stale = stale_plainly(first, second)
        told = None
        if stale:
            self.assert_refused(Stale(stale[0]), behind, first, second)
        else:
            told = behind(first, second)
            self.assertEqual(told, behind_plainly(first, second))
            self.assertIs(patch_ok(told), True)
            self.assert_own_patch(told, [first, second])
        self.assertEqual((first, second), given)
        return told

    def assert_own_patch(self, told, given):
        """[2]: no list of what was told stands twice, or in what was handed in."""
        self.assertIs(type(told), list)
        self.assertEqual({type(row) for row in told} | {tuple}, {tuple})
        own = [told] + [side for row in told for side in row[1:]]
        self.assertEqual({type(side) for side in own}, {list})
        self.assertEqual(len({id(side) for side in own}), len(own))
        theirs = given + [side for patch in given for row in patch for side in row[1:]]
        self.assertFalse({id(side) for side in own} & {id(side) for side in theirs})

    def done_audited(self, table, patch):
        """[63]; the same deeds, each audited, are done at a twin. Told is whether the patch could be done."""
        given, root, rows = copy.deepcopy(patch), table.root, self.dict_of(table)
        stale = [key for key, old, _ in patch if side_in(rows, key) != old]
        if stale:
            self.assert_nothing_changed(table.shelf, Stale(stale[0]), done, table, patch)
            self.assertEqual(table.root, root)
        else:
            twin = copy.deepcopy(table)
            told = done(table, patch)
            self.assertEqual((told, type(told)), (len(patch), int))
            self.done_at_twin(twin, patch)
            self.assertEqual((Picture(table.shelf), table.root), (Picture(twin.shelf), twin.root))
            self.assertEqual(unlike_plainly(rows, self.dict_of(table)), patch)
        self.assertEqual(patch, given)
        return not stale

    def done_at_twin(self, twin, patch):
        for key, _, new in patch:
            if new:
                self.assertTrue(self.put_audited(twin, key, new[0]))
            else:
                self.assertTrue(self.take_audited(twin, key))

    def joined_audited(self, base, one, other, keep):
        rows, clashes = joined_plainly(self.dict_of(base), self.dict_of(one), self.dict_of(other), keep)
        told, before, after = self.told_audited(one.shelf, [in_rows(rows)], joined, base, one, other, keep)
        self.assertEqual((type(told), len(told)), (tuple, 2))
        self.assertEqual(told[1], clashes)
        self.assertEqual({type(clash) for clash in told[1]} | {tuple}, {tuple})
        self.assertEqual(type(told[1]), list)
        own = [side for clash in told[1] for side in clash[1:]]
        self.assertEqual(len({id(side) for side in own}), len(own))
        if base.root == one.root:
            self.assertEqual(told[0].root, other.root)
        elif base.root == other.root or one.root == other.root:
            self.assertEqual(told[0].root, one.root)
        self.assert_few_new(before, after, told[0], one, other, [one, other])
        return told

    def joined_both_ways(self, base, one, other, keep):
        """As turned about; told is what joined tells."""
        told = self.joined_audited(base, one, other, keep)
        about = self.joined_audited(base, other, one, SWAPPED[keep])
        self.assertEqual(about[0].rows(), told[0].rows())
        self.assertEqual(about[1], [(key, old, new, mine) for key, old, mine, new in told[1]])
        about[0].clear()
        return told

    def laid_audited(self, one, other):
        told = self.lay_audited(laid, {**self.dict_of(one), **self.dict_of(other)}, one, other, [one, other])
        if one.root is None:
            self.assertEqual(told.root, other.root)
        return told

    def met_audited(self, one, other):
        rows, beside = self.dict_of(one), self.dict_of(other)
        return self.lay_audited(met, {key: rows[key] for key in rows if key in beside}, one, other, [one])

    def less_audited(self, one, other):
        rows, beside = self.dict_of(one), self.dict_of(other)
        return self.lay_audited(less, {key: rows[key] for key in rows if key not in beside}, one, other, [one])

    def lay_audited(self, deed, wanted, one, other, counted):
        told, before, after = self.told_audited(one.shelf, [in_rows(wanted)], deed, one, other)
        self.assertIs(type(told), Table)
        if wanted == self.dict_of(one):
            self.assertEqual(told.root, one.root)
        self.assert_few_new(before, after, told, one, other, counted)
        return told

    def assert_few_new(self, before, after, told, one, other, counted):
        """[70], where n is the most keys at which the new table and one of those counted are unlike."""
        rows = dict(after.rows(told.root))
        most = max(len(unlike_plainly(rows, dict(before.rows(table.root)))) for table in counted)
        new = set(after.reach(told.root)) - set(before.reach(one.root)) - set(before.reach(other.root))
        self.assertLessEqual(len(new), 20 * most)

"""What the long runs share: deeds at several tables of one shelf, held against plain dicts."""

import collections
import itertools
import random

from audits import AuditCase, Picture
from mixes import MixCase, joined_plainly, unlike_plainly
from parts import PartCase
from trees import NO_KEYS, PLACES, RISING
from twigmap.cuts import cut, gapped, span
from twigmap.differs import unlike
from twigmap.errors import NoKey
from twigmap.fills import filled
from twigmap.patches import patch_ok, turned
from twigmap.shelf import Shelf
from twigmap.tables import Table


class Scene:
    """Tables on a shelf, for each the dict of its rows, and the numbers that the asker holds."""

    def __init__(self, seed, keys, most, shelf=None):
        self.chance = random.Random(seed)
        self.keys = [RISING[at * len(RISING) // keys] for at in range(keys)]
        self.most = most
        self.shelf = Shelf() if shelf is None else shelf
        self.tables = [Table(self.shelf)]
        self.dicts = [{key: 0 for key in self.chance.sample(self.keys, keys // 2)}]
        for key in self.dicts[0]:
            self.tables[0].put(key, 0)
        self.held = []

    def pick(self):
        return self.chance.randrange(len(self.tables))

    def smallest(self):
        """What is to be cleared, so that the great ones live long."""
        return min(range(len(self.tables)), key=lambda at: len(self.dicts[at]))

    def key(self, rows, there):
        """A key that has a row, or one that has none; None where there is no such one."""
        fitting = [key for key in self.keys if (key in rows) == there]
        return self.chance.choice(fitting) if fitting else None

    def deed(self, weights, growing):
        weights = dict(weights)
        weights["put" if growing else "take"] *= 3
        return self.chance.choices(list(weights), list(weights.values()))[0]

    def add_table(self, table, rows):
        if len(self.tables) < self.most:
            self.tables.append(table)
            self.dicts.append(rows)
            return
        at = self.smallest()
        self.tables[at].clear()
        self.tables[at] = table
        self.dicts[at] = rows


class SceneCase(AuditCase):
    def scene(self, seed, keys, most):
        return Scene(seed, keys, most)

    def do(self, scene, name):
        """Does one deed, and tells whether it could be done."""
        return getattr(self, "do_" + name.replace(" ", "_"))(scene, scene.pick())

    def do_put(self, scene, at):
        key = scene.chance.choice(scene.keys)
        value = scene.chance.choice(RISING)
        wanted = scene.dicts[at].get(key) != value
        self.assertIs(self.put_audited(scene.tables[at], key, value), wanted)
        scene.dicts[at][key] = value
        return True

    def do_put_again(self, scene, at):
        key = scene.key(scene.dicts[at], True)
        return key is not None and not self.put_audited(scene.tables[at], key, scene.dicts[at][key])

    def do_take(self, scene, at):
        key = scene.key(scene.dicts[at], True)
        if key is None:
            return False
        scene.dicts[at].pop(key)
        return self.take_audited(scene.tables[at], key)

    def do_take_nothing(self, scene, at):
        key = scene.key(scene.dicts[at], False)
        return key is not None and not self.take_audited(scene.tables[at], key)

    def do_fork(self, scene, at):
        fork = scene.tables[at].fork()
        scene.add_table(fork, dict(scene.dicts[at]))
        return True

    def do_clear(self, scene, at):
        scene.tables[scene.smallest()].clear()
        scene.dicts[scene.smallest()] = {}
        return True

    def do_no_key(self, scene, at):
        table = scene.tables[at]
        wrong = scene.chance.choice(NO_KEYS)
        for deed, things in [(table.put, (wrong, 1)), (table.put, (1, wrong)), (table.take, (wrong,))]:
            self.assert_nothing_changed(scene.shelf, NoKey(), deed, *things)
        return True

    def do_hold(self, scene, at):
        twigs = scene.tables[at].twigs()
        if twigs:
            scene.held.append(scene.chance.choice(twigs))
            scene.shelf.hold(scene.held[-1])
        return twigs != []

    def do_let_go(self, scene, at):
        if scene.held:
            scene.chance.shuffle(scene.held)
            scene.shelf.let_go(scene.held.pop())
            return True
        return False

    def do_hold_as_table(self, scene, at):
        """Another table of a twig that the asker holds, wherever it lies."""
        if not scene.held:
            return False
        number = scene.held.pop()
        scene.add_table(Table(scene.shelf, number), dict(Picture(scene.shelf).rows(number)))
        return True

    def do_put_stem(self, scene, at):
        """A stem of the asker's own over twigs of one or two tables."""
        picture = Picture(scene.shelf)
        pairs = [(one, other) for one in scene.tables[at].twigs() for other in scene.tables[scene.pick()].twigs()
                 if picture.height(one) == picture.height(other)
                 and PLACES[picture.labels[one][2]] < PLACES[picture.labels[other][1]]]
        if not pairs:
            return False
        pair = scene.chance.choice(pairs)
        for number in pair:
            scene.shelf.hold(number)
        scene.held.append(scene.shelf.put_stem(list(pair)))
        return True

    def do_put_leaf(self, scene, at):
        scene.held.append(scene.shelf.put_leaf([(scene.chance.choice(scene.keys), 1)]))
        return True

    def assert_scene(self, scene):
        picture = Picture(scene.shelf)
        self.assert_even(picture)
        roots = [table.root for table in scene.tables]
        self.assertEqual([root is None for root in roots], [rows == {} for rows in scene.dicts])
        holds = collections.Counter(picture.holds())
        holds.subtract(scene.held + [root for root in roots if root is not None])
        self.assertGreaterEqual(min(holds.values(), default=0), 0)
        self.assert_held_by_others(scene, picture, list(holds.elements()))
        self.assertEqual(set(picture.found), picture.reached_by(picture.holds()))
        for table, rows in zip(scene.tables, scene.dicts):
            self.assertEqual(table.rows(), sorted(rows.items(), key=lambda row: PLACES[row[0]]))
            self.assertEqual(table.count(), len(rows))
            self.assertEqual(table.twigs(), sorted(picture.reach(table.root)))
            for key in scene.chance.sample(scene.keys, 5):
                self.assertEqual(table.side(key), [rows[key]] if key in rows else [])

    def assert_held_by_others(self, scene, picture, holds):
        """What is held beside what the tables and the asker hold."""
        self.assertEqual(holds, [])

    def run_all(self, seeds, runs, weights):
        """Runs of deeds drawn by weights; each run tells how many keys, tables and deeds there are."""
        seen = collections.Counter()
        for seed in seeds:
            for run in runs:
                self.run_deeds(seed, run, weights, seen)
        for name in weights:
            self.assertGreater(seen[name], 10, name)

    def run_deeds(self, seed, run, weights, seen):
        keys, most, deeds = run
        scene = self.scene(seed, keys, most)
        for turn in range(deeds):
            name = scene.deed(weights, turn % 160 < 100)
            seen[name] += self.do(scene, name)
            self.assert_scene(scene)
        self.end(scene)

    def end(self, scene):
        """Behind clear of all tables just what the asker holds is there."""
        before = Picture(scene.shelf)
        for table in scene.tables:
            table.clear()
        after = Picture(scene.shelf)
        self.assertEqual(set(after.found), before.reached_by(scene.held))
        for number in after.found:
            self.assertEqual(after.found[number], before.found[number])
        for number in scene.held:
            scene.shelf.let_go(number)
        self.assertEqual(scene.shelf.numbers(), [])


class PartSceneCase(SceneCase, PartCase):
    def add(self, scene, table):
        scene.add_table(table, dict(table.rows()))
        return True

    def two_keys(self, scene):
        return scene.chance.choice(scene.keys), scene.chance.choice(scene.keys)

    def pairs(self, scene, apart):
        """Tables of which the keys of the one stand ahead of those of the other, or such as overlap."""
        for one, other in itertools.product(range(len(scene.tables)), repeat=2):
            places = [[PLACES[key] for key in scene.dicts[at]] for at in (one, other)]
            if (max(places[0], default=-1) < min(places[1], default=len(PLACES))) == apart:
                yield scene.tables[one], scene.tables[other]

    def do_filled(self, scene, at):
        keys = scene.chance.sample(scene.keys, scene.chance.randrange(len(scene.keys) // 2))
        rows = [(key, scene.chance.choice(scene.keys)) for key in sorted(keys, key=PLACES.get)]
        return self.add(scene, self.filled_audited(scene.shelf, rows))

    def do_bonded(self, scene, at):
        pairs = list(self.pairs(scene, True))
        if not pairs:
            return False
        pairs = [pair for pair in pairs if pair[0].root is not None and pair[1].root is not None] or pairs
        one, other = scene.chance.choice(pairs)
        return self.add(scene, self.bonded_audited(one, other)[0])

    def do_spliced(self, scene, at):
        """The head of one table and the tail of another, bonded; the parts go at once."""
        low, high = sorted(self.two_keys(scene), key=PLACES.get)
        parts = self.cut_audited(scene.tables[at], low) + self.cut_audited(scene.tables[scene.pick()], high)
        whole, _ = self.bonded_audited(parts[0], parts[3])
        for part in parts:
            part.clear()
        return self.add(scene, whole)

    def do_overlap(self, scene, at):
        pairs = list(self.pairs(scene, False))
        if not pairs:
            return False
        one, other = scene.chance.choice(pairs)
        self.assertIsNone(self.bonded_audited(one, other)[0])
        return True

    def do_cut(self, scene, at):
        one, other = self.cut_audited(scene.tables[at], scene.chance.choice(scene.keys))
        return self.add(scene, one) and self.add(scene, other)

    def do_span(self, scene, at):
        return self.add(scene, self.span_audited(scene.tables[at], *self.two_keys(scene)))

    def do_gapped(self, scene, at):
        return self.add(scene, self.gapped_audited(scene.tables[at], *self.two_keys(scene)))

    def do_wrong(self, scene, at):
        wrong, right = scene.chance.choice(NO_KEYS), scene.chance.choice(scene.keys)
        table = scene.tables[at]
        for deed, things in [
            (cut, (table, wrong)), (span, (table, wrong, right)), (gapped, (table, right, wrong)),
            (filled, (scene.shelf, [(right, 1), (right, wrong)])),
        ]:
            self.assert_nothing_changed(scene.shelf, NoKey(), deed, *things)
        self.filled_refused(scene.shelf, [(right, 1), (right, 2)], 1)
        return True


class JoinSceneCase(PartSceneCase, MixCase):
    def setUp(self):
        self.clashes = collections.Counter()

    def three(self, scene):
        return [scene.pick() for _ in range(3)]

    def patch_between(self, scene, one, other, most):
        """So many rows at most of what is unlike, as a patch by itself."""
        rows = unlike_plainly(scene.dicts[one], scene.dicts[other])
        picked = scene.chance.sample(rows, min(most, len(rows)))
        return sorted(picked, key=lambda row: PLACES[row[0]])

    def do_patch(self, scene, at, patch):
        self.assertTrue(self.done_audited(scene.tables[at], patch))
        for key, _, new in patch:
            scene.dicts[at].pop(key, None)
            for value in new:
                scene.dicts[at][key] = value

    def do_unlike(self, scene, at):
        other = scene.pick()
        told = unlike(scene.shelf, scene.tables[at].root, scene.tables[other].root)
        self.assertEqual(told, unlike_plainly(scene.dicts[at], scene.dicts[other]))
        self.assertIs(patch_ok(told), True)
        self.assertEqual(self.turned_audited(told), unlike_plainly(scene.dicts[other], scene.dicts[at]))
        return told != []

    def do_done(self, scene, at):
        patch = self.patch_between(scene, at, scene.pick(), 6)
        self.do_patch(scene, at, patch)
        return patch != []

    def do_done_and_back(self, scene, at):
        patch = self.patch_between(scene, at, scene.pick(), 6)
        rows = scene.tables[at].rows()
        self.do_patch(scene, at, patch)
        self.do_patch(scene, at, turned(patch))
        self.assertEqual(scene.tables[at].rows(), rows)
        return patch != []

    def do_done_stale(self, scene, at):
        """Some rows of the patch are another table's, so that their old side may be another one."""
        one, other = scene.pick(), scene.pick()
        patch = self.patch_between(scene, one, other, 10)
        if not [key for key, old, _ in patch if scene.tables[at].side(key) != old]:
            return False
        self.assertFalse(self.done_audited(scene.tables[at], patch))
        return True

    def do_behind(self, scene, at):
        one, other, third = self.three(scene)
        roots = [scene.tables[which].root for which in (one, other, third)]
        patches = [unlike(scene.shelf, roots[0], roots[1]), unlike(scene.shelf, roots[1], roots[2])]
        both = self.behind_audited(*patches)
        self.assertEqual(both, unlike_plainly(scene.dicts[one], scene.dicts[third]))
        fork = scene.tables[one].fork()
        self.done_short(fork, both)
        scene.add_table(fork, dict(scene.dicts[third]))
        return all(patches)

    def done_short(self, table, patch):
        """In short patches, as each row of one is audited."""
        for at in range(0, len(patch), 40):
            self.assertTrue(self.done_audited(table, patch[at:at + 40]))

    def do_behind_stale(self, scene, at):
        one, other, third = self.three(scene)
        patches = [self.patch_between(scene, at, one, 20), self.patch_between(scene, other, third, 20)]
        return self.behind_audited(*patches) is None

    def do_joined(self, scene, at):
        places = self.three(scene)
        return self.join(scene, [scene.tables[place] for place in places], [scene.dicts[place] for place in places])

    def do_joined_forks(self, scene, at):
        """One and other begin as forks of a base, and go on by themselves."""
        forks = [scene.tables[at].fork() for _ in range(2)]
        changed = [dict(scene.dicts[at]) for _ in range(2)]
        keys = scene.chance.sample(scene.keys, 12)
        for fork, rows in zip(forks, changed):
            for key in scene.chance.sample(keys, 9):
                side = scene.chance.choice([[], ["x"], ["y"]])
                rows.pop(key, None)
                fork.take(key)
                for value in side:
                    rows[key] = value
                    fork.put(key, value)
        for fork, rows in zip(forks, changed):
            self.assertEqual(dict(fork.rows()), rows)
        self.join(scene, [scene.tables[at], *forks], [scene.dicts[at], *changed])
        for fork in forks:
            fork.clear()
        return True

    def join(self, scene, tables, dicts):
        keep = scene.chance.choice(["base", "one", "other"])
        told, clashes = self.joined_both_ways(*tables, keep)
        rows, wanted = joined_plainly(*dicts, keep)
        self.assertEqual(clashes, wanted)
        self.clashes[keep] += len(clashes)
        scene.add_table(told, rows)
        return True

    def do_laid(self, scene, at):
        other = scene.pick()
        told = self.laid_audited(scene.tables[at], scene.tables[other])
        scene.add_table(told, {**scene.dicts[at], **scene.dicts[other]})
        return True

    def do_met(self, scene, at):
        other = scene.pick()
        told = self.met_audited(scene.tables[at], scene.tables[other])
        scene.add_table(told, {key: value for key, value in scene.dicts[at].items() if key in scene.dicts[other]})
        return True

    def do_less(self, scene, at):
        other = scene.pick()
        told = self.less_audited(scene.tables[at], scene.tables[other])
        scene.add_table(told, {key: value for key, value in scene.dicts[at].items() if key not in scene.dicts[other]})
        return True

"""[7], [62], [63], [70] to [73]: long runs of patches, joins and lays among puts, takes, forks, clears and cuts."""

import collections
import unittest

from mixes import MixCase, joined_plainly, unlike_plainly
from scenes import PartSceneCase
from trees import PLACES
from twigmap.differs import unlike
from twigmap.patches import patch_ok, turned

# How many keys, tables and deeds there are.
RUNS = [(12, 6, 200), (40, 8, 200), (120, 8, 200), (400, 6, 120)]
WEIGHTS = {
    "put": 14, "take": 14, "fork": 5, "clear": 2, "hold": 4, "let go": 3, "hold as table": 2, "spliced": 6, "cut": 5,
    "span": 3, "unlike": 4, "done": 8, "done and back": 4, "done stale": 4, "behind": 5, "behind stale": 4,
    "joined": 8, "joined forks": 8, "laid": 6, "met": 5, "less": 5,
}


class JoinDeedsTest(PartSceneCase, MixCase):
    def setUp(self):
        self.clashes = collections.Counter()

    def three(self, scene):
        return [scene.pick() for _ in range(3)]

    def patch_between(self, scene, one, other, most):
        """So many rows at most of what is unlike, as a patch by itself."""
        rows = unlike_plainly(scene.dicts[one], scene.dicts[other])
        picked = scene.chance.sample(rows, min(most, len(rows)))
        return sorted(picked, key=lambda row: PLACES[row[0]])

    def do_patch(self, scene, at, patch):
        self.assertTrue(self.done_audited(scene.tables[at], patch))
        for key, _, new in patch:
            scene.dicts[at].pop(key, None)
            for value in new:
                scene.dicts[at][key] = value

    def do_unlike(self, scene, at):
        other = scene.pick()
        told = unlike(scene.shelf, scene.tables[at].root, scene.tables[other].root)
        self.assertEqual(told, unlike_plainly(scene.dicts[at], scene.dicts[other]))
        self.assertIs(patch_ok(told), True)
        self.assertEqual(self.turned_audited(told), unlike_plainly(scene.dicts[other], scene.dicts[at]))
        return told != []

    def do_done(self, scene, at):
        patch = self.patch_between(scene, at, scene.pick(), 6)
        self.do_patch(scene, at, patch)
        return patch != []

    def do_done_and_back(self, scene, at):
        patch = self.patch_between(scene, at, scene.pick(), 6)
        rows = scene.tables[at].rows()
        self.do_patch(scene, at, patch)
        self.do_patch(scene, at, turned(patch))
        self.assertEqual(scene.tables[at].rows(), rows)
        return patch != []

    def do_done_stale(self, scene, at):
        """Some rows of the patch are another table's, so that their old side may be another one."""
        one, other = scene.pick(), scene.pick()
        patch = self.patch_between(scene, one, other, 10)
        if not [key for key, old, _ in patch if scene.tables[at].side(key) != old]:
            return False
        self.assertFalse(self.done_audited(scene.tables[at], patch))
        return True

    def do_behind(self, scene, at):
        one, other, third = self.three(scene)
        roots = [scene.tables[which].root for which in (one, other, third)]
        patches = [unlike(scene.shelf, roots[0], roots[1]), unlike(scene.shelf, roots[1], roots[2])]
        both = self.behind_audited(*patches)
        self.assertEqual(both, unlike_plainly(scene.dicts[one], scene.dicts[third]))
        fork = scene.tables[one].fork()
        self.done_short(fork, both)
        scene.add_table(fork, dict(scene.dicts[third]))
        return all(patches)

    def done_short(self, table, patch):
        """In short patches, as each row of one is audited."""
        for at in range(0, len(patch), 40):
            self.assertTrue(self.done_audited(table, patch[at:at + 40]))

    def do_behind_stale(self, scene, at):
        one, other, third = self.three(scene)
        patches = [self.patch_between(scene, at, one, 20), self.patch_between(scene, other, third, 20)]
        return self.behind_audited(*patches) is None

    def do_joined(self, scene, at):
        places = self.three(scene)
        return self.join(scene, [scene.tables[place] for place in places], [scene.dicts[place] for place in places])

    def do_joined_forks(self, scene, at):
        """One and other begin as forks of a base, and go on by themselves."""
        forks = [scene.tables[at].fork() for _ in range(2)]
        changed = [dict(scene.dicts[at]) for _ in range(2)]
        keys = scene.chance.sample(scene.keys, 12)
        for fork, rows in zip(forks, changed):
            for key in scene.chance.sample(keys, 9):
                side = scene.chance.choice([[], ["x"], ["y"]])
                rows.pop(key, None)
                fork.take(key)
                for value in side:
                    rows[key] = value
                    fork.put(key, value)
        for fork, rows in zip(forks, changed):
            self.assertEqual(dict(fork.rows()), rows)
        self.join(scene, [scene.tables[at], *forks], [scene.dicts[at], *changed])
        for fork in forks:
            fork.clear()
        return True

    def join(self, scene, tables, dicts):
        keep = scene.chance.choice(["base", "one", "other"])
        told, clashes = self.joined_both_ways(*tables, keep)
        rows, wanted = joined_plainly(*dicts, keep)
        self.assertEqual(clashes, wanted)
        self.clashes[keep] += len(clashes)
        scene.add_table(told, rows)
        return True

    def do_laid(self, scene, at):
        other = scene.pick()
        told = self.laid_audited(scene.tables[at], scene.tables[other])
        scene.add_table(told, {**scene.dicts[at], **scene.dicts[other]})
        return True

    def do_met(self, scene, at):
        other = scene.pick()
        told = self.met_audited(scene.tables[at], scene.tables[other])
        scene.add_table(told, {key: value for key, value in scene.dicts[at].items() if key in scene.dicts[other]})
        return True

    def do_less(self, scene, at):
        other = scene.pick()
        told = self.less_audited(scene.tables[at], scene.tables[other])
        scene.add_table(told, {key: value for key, value in scene.dicts[at].items() if key not in scene.dicts[other]})
        return True

    def test_deeds(self):
        self.run_all(range(3), RUNS, WEIGHTS)
        for keep in ("base", "one", "other"):
            self.assertGreater(self.clashes[keep], 50)


if __name__ == "__main__":
    unittest.main()

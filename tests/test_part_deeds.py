"""[7], [50] to [53]: long runs of filled, bonded, cut, span and gapped among puts, takes, forks and clears."""

import itertools
import unittest

from parts import PartCase
from scenes import SceneCase
from trees import NO_KEYS, PLACES
from twigmap.cuts import cut, gapped, span
from twigmap.errors import NoKey
from twigmap.fills import filled

# How many keys, tables and deeds there are.
RUNS = [(12, 4, 150), (40, 6, 200), (120, 6, 200), (400, 5, 150)]
WEIGHTS = {
    "put": 14, "take": 14, "fork": 3, "clear": 2, "hold": 5, "let go": 3, "hold as table": 3,
    "filled": 5, "bonded": 6, "spliced": 12, "overlap": 3, "cut": 6, "span": 6, "gapped": 6, "wrong": 3,
}


class PartDeedsTest(SceneCase, PartCase):
    def add(self, scene, table):
        scene.add_table(table, dict(table.rows()))
        return True

    def two_keys(self, scene):
        return scene.chance.choice(scene.keys), scene.chance.choice(scene.keys)

    def pairs(self, scene, apart):
        """Tables of which the keys of the one stand ahead of those of the other, or such as overlap."""
        for one, other in itertools.product(range(len(scene.tables)), repeat=2):
            places = [[PLACES[key] for key in scene.dicts[at]] for at in (one, other)]
            if (max(places[0], default=-1) < min(places[1], default=len(PLACES))) == apart:
                yield scene.tables[one], scene.tables[other]

    def do_filled(self, scene, at):
        keys = scene.chance.sample(scene.keys, scene.chance.randrange(len(scene.keys) // 2))
        rows = [(key, scene.chance.choice(scene.keys)) for key in sorted(keys, key=PLACES.get)]
        return self.add(scene, self.filled_audited(scene.shelf, rows))

    def do_bonded(self, scene, at):
        pairs = list(self.pairs(scene, True))
        if not pairs:
            return False
        pairs = [pair for pair in pairs if pair[0].root is not None and pair[1].root is not None] or pairs
        one, other = scene.chance.choice(pairs)
        return self.add(scene, self.bonded_audited(one, other)[0])

    def do_spliced(self, scene, at):
        """The head of one table and the tail of another, bonded; the parts go at once."""
        low, high = sorted(self.two_keys(scene), key=PLACES.get)
        parts = self.cut_audited(scene.tables[at], low) + self.cut_audited(scene.tables[scene.pick()], high)
        whole, _ = self.bonded_audited(parts[0], parts[3])
        for part in parts:
            part.clear()
        return self.add(scene, whole)

    def do_overlap(self, scene, at):
        pairs = list(self.pairs(scene, False))
        if not pairs:
            return False
        one, other = scene.chance.choice(pairs)
        self.assertIsNone(self.bonded_audited(one, other)[0])
        return True

    def do_cut(self, scene, at):
        one, other = self.cut_audited(scene.tables[at], scene.chance.choice(scene.keys))
        return self.add(scene, one) and self.add(scene, other)

    def do_span(self, scene, at):
        return self.add(scene, self.span_audited(scene.tables[at], *self.two_keys(scene)))

    def do_gapped(self, scene, at):
        return self.add(scene, self.gapped_audited(scene.tables[at], *self.two_keys(scene)))

    def do_wrong(self, scene, at):
        wrong, right = scene.chance.choice(NO_KEYS), scene.chance.choice(scene.keys)
        table = scene.tables[at]
        for deed, things in [
            (cut, (table, wrong)), (span, (table, wrong, right)), (gapped, (table, right, wrong)),
            (filled, (scene.shelf, [(right, 1), (right, wrong)])),
        ]:
            self.assert_nothing_changed(scene.shelf, NoKey(), deed, *things)
        self.filled_refused(scene.shelf, [(right, 1), (right, 2)], 1)
        return True

    def test_deeds(self):
        self.run_all(range(3), RUNS, WEIGHTS)


if __name__ == "__main__":
    unittest.main()

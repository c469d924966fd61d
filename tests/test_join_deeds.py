"""[7], [62], [63], [70] to [73]: long runs of patches, joins and lays among puts, takes, forks, clears and cuts."""

import unittest

from scenes import JoinSceneCase

# How many keys, tables and deeds there are.
RUNS = [(12, 6, 200), (40, 8, 200), (120, 8, 200), (400, 6, 120)]
WEIGHTS = {
    "put": 14, "take": 14, "fork": 5, "clear": 2, "hold": 4, "let go": 3, "hold as table": 2, "spliced": 6, "cut": 5,
    "span": 3, "unlike": 4, "done": 8, "done and back": 4, "done stale": 4, "behind": 5, "behind stale": 4,
    "joined": 8, "joined forks": 8, "laid": 6, "met": 5, "less": 5,
}


class JoinDeedsTest(JoinSceneCase):
    def test_deeds(self):
        self.run_all(range(3), RUNS, WEIGHTS)
        for keep in ("base", "one", "other"):
            self.assertGreater(self.clashes[keep], 50)


if __name__ == "__main__":
    unittest.main()

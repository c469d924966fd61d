"""[7], [50] to [53]: long runs of filled, bonded, cut, span and gapped among puts, takes, forks and clears."""

import unittest

from scenes import PartSceneCase

# How many keys, tables and deeds there are.
RUNS = [(12, 4, 150), (40, 6, 200), (120, 6, 200), (400, 5, 150)]
WEIGHTS = {
    "put": 14, "take": 14, "fork": 3, "clear": 2, "hold": 5, "let go": 3, "hold as table": 3,
    "filled": 5, "bonded": 6, "spliced": 12, "overlap": 3, "cut": 6, "span": 6, "gapped": 6, "wrong": 3,
}


class PartDeedsTest(PartSceneCase):
    def test_deeds(self):
        self.run_all(range(3), RUNS, WEIGHTS)


if __name__ == "__main__":
    unittest.main()

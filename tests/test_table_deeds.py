"""[7], [40] to [43]: long runs of puts, takes, forks and clears at several tables of one shelf, against plain dicts."""

import unittest

from scenes import SceneCase

# How many keys, tables and deeds there are: few keys for many takes, many for high trees.
RUNS = [(12, 3, 260), (40, 5, 260), (90, 4, 320), (250, 4, 320), (600, 3, 160)]
WEIGHTS = {
    "put": 30, "take": 30, "put again": 3, "take nothing": 3, "fork": 5, "clear": 2, "no key": 2,
    "hold": 4, "let go": 4, "hold as table": 1, "put stem": 2, "put leaf": 1,
}


class TableDeedsTest(SceneCase):
    def test_deeds(self):
        self.run_all(range(3), RUNS, WEIGHTS)


if __name__ == "__main__":
    unittest.main()

"""[7], [80] to [85]: long runs of all deeds of a book, against a plain one."""

import collections
import random
import unittest

from books import WANTED, WEIGHTS, BookCase, Drawn, Pair
from trees import ODD, RISING

# How many keys and names there are, how many versions are kept at most, how many deeds are done.
RUNS = [(6, 3, 8, 500), (20, 5, 20, 500), (60, 4, 12, 400), (200, 3, 30, 300)]


class BookDeedsTest(BookCase):
    def test_deeds(self):
        self.done, self.refused, self.met = [collections.Counter() for _ in range(3)]
        for seed in range(3):
            for run in RUNS:
                self.run_deeds(seed, *run)
        for deed in WANTED:
            self.assertGreater(self.done[deed], 20, deed)
        self.assertEqual(len(self.refused), 4)
        self.assertGreater(min(self.refused.values()), 10)
        self.assertGreater(self.met["clashes"], 50)
        self.assertGreater(self.met["with an elder"], 50)

    def run_deeds(self, seed, keys, names, most, deeds):
        chance = random.Random(seed)
        pair = Pair()
        drawn = Drawn(chance, pair.plain, self.keys(keys), ["a", "bough", "c", "names", "zzzzzzzzzzzz"][:names], most)
        for turn in range(deeds):
            deed, things = drawn.deed(WEIGHTS)
            told = self.at_both(pair, deed, *things)
            if isinstance(told, type):
                self.refused[told.__name__] += 1
            else:
                self.done[deed] += 1
                self.met["clashes"] += deed == "meet" and told[1] != []
                self.met["with an elder"] += deed == "meet" and len(pair.plain.elders[told[0]]) == 2
            if turn % 20 == 0:
                self.hold_or_let_go(chance, pair)
        self.end_both(pair)

    def keys(self, many):
        return [RISING[at * len(RISING) // many] for at in range(many)] + ODD[::many // 3]

    def hold_or_let_go(self, chance, pair):
        """Twigs of the book that the asker holds."""
        if len(pair.held) > 3:
            pair.shelf.let_go(pair.held.pop(chance.randrange(len(pair.held))))
        elif pair.shelf.many():
            pair.held.append(chance.choice(pair.shelf.numbers()))
            pair.shelf.hold(pair.held[-1])


if __name__ == "__main__":
    unittest.main()

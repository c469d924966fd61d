"""[3], [7], [20] to [27]: long runs of deeds on a shelf, against a plain one that reckons all anew each time."""

import collections
import random
import unittest

from twigmap.errors import NoKey, NoLeaf, NoStem, NoTwig, NotHeld, Shared, TwigError
from twigmap.shelf import Shelf

# Rising as they stand, so that their places tell their order.
KEYS = [-7] + list(range(15)) + [""] + ["a%02d" % place for place in range(14)] + ["b"]
KEYS += [(), (0,)] + [(0, place) for place in range(12)] + [("a",), ((),)]
PLACES = {key: place for place, key in enumerate(KEYS)}
SEEDS = range(12)
DEEDS = 250


class PlainShelf:
    """Keeps just what was put and the holds from without; all else it finds out by going through everything."""

    def __init__(self):
        self.things = {}
        self.held = {}
        self.following = 0

    def is_stem(self, number):
        return isinstance(self.things[number][0], int)

    def stems_over(self, number):
        return [stem for stem in self.things if self.is_stem(stem) and number in self.things[stem]]

    def holders(self, number):
        return len(self.stems_over(number)) + self.held[number]

    def outside(self, number):
        return self.held[number]

    def alone(self, number):
        over = self.stems_over(number)
        return self.holders(number) == 1 and all(self.alone(stem) for stem in over)

    def rows(self, number):
        if not self.is_stem(number):
            return self.things[number]
        return [row for branch in self.things[number] for row in self.rows(branch)]

    def height(self, number):
        return 1 + self.height(self.things[number][0]) if self.is_stem(number) else 0

    def label(self, number):
        rows = self.rows(number)
        return (self.height(number), rows[0][0], rows[-1][0], len(rows))

    def look(self, number):
        return ("stem" if self.is_stem(number) else "leaf", list(self.things[number]))

    def sweep(self):
        unheld = [number for number in self.things if self.holders(number) == 0]
        for number in unheld:
            del self.things[number], self.held[number]
        if unheld:
            self.sweep()

    def check_there(self, *numbers):
        for number in numbers:
            if number not in self.things:
                raise NoTwig(number)

    def check_stem(self, numbers):
        heights = {self.height(number) for number in numbers}
        rows = [row for number in numbers for row in self.rows(number)]
        if not 2 <= len(numbers) <= 4 or len(heights) != 1 or not rises(rows):
            raise NoStem()

    def check_all_stems(self):
        for number in self.things:
            if self.is_stem(number):
                self.check_stem(self.things[number])

    def check_alone(self, number):
        if not self.alone(number):
            while self.holders(number) == 1:
                number = self.stems_over(number)[0]
            raise Shared(number)

    def check_held(self, numbers):
        for number in numbers:
            if self.held[number] == 0:
                raise NotHeld(number)

    def put(self, things):
        number = self.following
        self.following += 1
        self.things[number] = things
        self.held[number] = 1
        return number

    def put_leaf(self, rows):
        check_rows(rows)
        return self.put(list(rows))

    def put_stem(self, numbers):
        self.check_there(*numbers)
        self.check_stem(numbers)
        self.check_held(numbers)
        for number in numbers:
            self.held[number] -= 1
        return self.put(list(numbers))

    def hold(self, number):
        self.check_there(number)
        self.held[number] += 1

    def let_go(self, number):
        self.check_there(number)
        self.check_held([number])
        self.held[number] -= 1
        self.sweep()

    def try_things(self, number, things, refusal):
        old = self.things[number]
        self.things[number] = list(things)
        try:
            self.check_all_stems()
        except NoStem:
            self.things[number] = old
            raise refusal

    def change_leaf(self, number, rows):
        self.check_there(number)
        if self.is_stem(number):
            raise NoLeaf()
        self.check_alone(number)
        check_rows(rows)
        self.try_things(number, rows, NoLeaf())

    def change_stem(self, number, numbers):
        self.check_there(number)
        if not self.is_stem(number):
            raise NoStem()
        self.check_alone(number)
        self.check_there(*numbers)
        old = self.things[number]
        self.check_stem(numbers)
        if self.height(numbers[0]) != self.height(old[0]):
            raise NoStem()
        self.try_things(number, numbers, NoStem())
        new = [one for one in numbers if one not in old]
        try:
            self.check_held(new)
        except NotHeld:
            self.things[number] = old
            raise
        for one in new:
            self.held[one] -= 1
        for one in old:
            self.held[one] += one not in numbers


def rises(rows):
    places = [PLACES[key] for key, _ in rows]
    return places == sorted(set(places))


def check_rows(rows):
    if any(thing is None for row in rows for thing in row):
        raise NoKey()
    if not 1 <= len(rows) <= 4 or not rises(rows):
        raise NoLeaf()


class Doer:
    """Draws deeds that are often right and now and then wrong."""

    def __init__(self, seed):
        self.chance = random.Random(seed)
        self.plain = PlainShelf()

    def first_deeds(self):
        """Trees of height 3, 2 and 1 beside one another, with room for keys between the leaves."""
        leaves = [("put_leaf", [[(KEYS[place], place)]]) for place in range(1, len(KEYS), 3)]
        pairs = [("put_stem", [[place, place + 1]]) for place in range(0, 14, 2)]
        first = len(leaves)
        fours = [("put_stem", [[first, first + 1]]), ("put_stem", [[first + 2, first + 3]])]
        fours += [("put_stem", [[first + 4, first + 5]])]
        return leaves + pairs + fours + [("put_stem", [[first + 7, first + 8]])]

    def number(self):
        there = sorted(self.plain.things)
        if not there or self.chance.random() < 0.1:
            return self.chance.choice([one for one in range(-2, self.plain.following + 3) if one not in there])
        return self.chance.choice(there)

    def rows(self, near):
        many = self.chance.choice([1, 1, 1, 1, 2, 2, 3, 4, 4, 0, 5])
        first = self.chance.randrange(len(KEYS)) if near is None else near
        keys = sorted(self.chance.sample(range(len(KEYS)), many), key=lambda place: abs(place - first))
        keys = sorted(keys) if self.chance.random() < 0.9 else keys
        if self.chance.random() < 0.5:
            keys = list(range(first, min(first + many, len(KEYS))))
        rows = [(KEYS[place], self.chance.choice(KEYS)) for place in keys]
        if rows and self.chance.random() < 0.04:
            rows[self.chance.randrange(len(rows))] = self.chance.choice([(None, 1), (1, None)])
        return rows

    def branches(self, height, kept):
        plain = self.plain
        if self.chance.random() < 0.1:
            return [self.number() for _ in range(self.chance.randrange(6))]
        fitting = [
            number for number in plain.things
            if plain.height(number) == height and (number in kept or plain.held[number] or self.chance.random() < 0.1)
        ]
        self.chance.shuffle(fitting)
        chosen = [number for number in fitting if number in kept and self.chance.random() < 0.7]
        for number in fitting:
            if len(chosen) < 4 and number not in chosen and self.chance.random() < 0.8:
                joined = sorted(chosen + [number], key=lambda one: PLACES[plain.label(one)[1]])
                if rises([row for one in joined for row in plain.rows(one)]) or self.chance.random() < 0.03:
                    chosen = joined
        return sorted(chosen, key=lambda one: PLACES[plain.label(one)[1]])

    def deed(self):
        name = self.chance.choice(
            ["put_leaf"] * 3 + ["put_stem"] * 4 + ["hold"] + ["let_go"] * 2 + ["change_leaf"] * 4 + ["change_stem"] * 5
        )
        if name == "put_leaf":
            return name, [self.rows(None)]
        if name == "put_stem":
            return name, [self.branches(self.chance.choice([0, 0, 0, 1, 1, 2]), [])]
        number = self.number()
        if name == "change_leaf":
            there = number in self.plain.things
            return name, [number, self.rows(PLACES[self.plain.label(number)[1]] if there else None)]
        if name == "change_stem":
            stems = [one for one in self.plain.things if self.plain.is_stem(one)]
            if stems and self.chance.random() < 0.9:
                number = self.chance.choice(stems)
                return name, [number, self.branches(self.plain.height(number) - 1, self.plain.things[number])]
            return name, [number, self.branches(0, [])]
        return name, [number]


def outcome(deed, things):
    try:
        return ("told", deed(*things))
    except TwigError as refusal:
        return ("refused", type(refusal).__name__, vars(refusal))


class DeedsTest(unittest.TestCase):
    def assert_alike(self, shelf, plain, looked):
        numbers = sorted(plain.things)
        self.assertEqual(shelf.numbers(), numbers)
        self.assertEqual(shelf.many(), len(numbers))
        for number in numbers:
            for name in ("label", "holders", "outside", "alone"):
                self.assertEqual(getattr(shelf, name)(number), getattr(plain, name)(number), (name, number))
        self.assertEqual(shelf.looked(), looked)
        shelf.forget()
        for number in numbers:
            self.assertEqual(shelf.look(number), plain.look(number))

    def run_deeds(self, seed, seen):
        doer = Doer(seed)
        shelf = Shelf()
        looked = []
        first_deeds = doer.first_deeds()
        for turn in range(DEEDS):
            name, things = first_deeds[turn] if turn < len(first_deeds) else doer.deed()
            plain_told = outcome(getattr(doer.plain, name), things)
            told = outcome(getattr(shelf, name), things)
            self.assertEqual(told, plain_told, (seed, name, things))
            seen[name, told[1] if told[0] == "refused" else "done"] += 1
            self.assert_alike(shelf, doer.plain, looked)
            looked = sorted(doer.plain.things)

    def test_deeds(self):
        seen = collections.Counter()
        for seed in SEEDS:
            self.run_deeds(seed, seen)
        wanted = {
            "put_leaf": ["done", "NoKey", "NoLeaf"],
            "put_stem": ["done", "NoTwig", "NoStem", "NotHeld"],
            "hold": ["done", "NoTwig"],
            "let_go": ["done", "NoTwig", "NotHeld"],
            "change_leaf": ["done", "NoTwig", "NoLeaf", "Shared", "NoKey"],
            "change_stem": ["done", "NoTwig", "NoStem", "Shared", "NotHeld"],
        }
        for name, ends in wanted.items():
            self.assertEqual({end for deed, end in seen if deed == name}, set(ends))
        self.assertGreater(seen["change_leaf", "done"], 100)
        self.assertGreater(seen["change_stem", "done"], 100)


if __name__ == "__main__":
    unittest.main()

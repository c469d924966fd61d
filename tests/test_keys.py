"""[2], [4], [5], [10]: what is a key, and the order of keys."""

import itertools
import random
import unittest

from trees import PLACES, place_plainly
from twigmap.errors import NoKey
from twigmap.keys import ahead, checked, deep, is_key, order, place_in

MOST = 10 ** 60 - 1

KEYS = [
    0, 1, -1, 10 ** 59, MOST, -MOST,
    "", " ", "~", "1", "True", "a" * 40, " " * 40, "~" * 40, "\"\\", "() '",
    "".join(chr(place) for place in range(32, 71) if place != 37),
    (), (1,), ("",), (1, 2, 3, 4), (1, "1", (), -1),
    ((),), (((),),), (1, (2, (3,))), (((1, 2, 3, "a" * 40), (), "", MOST), (), (), ()),
    (((), (), (), ()), ((),), (), ()), ("a" * 40, -MOST),
]

NO_KEYS = [
    MOST + 1, -MOST - 1, 10 ** 61, 10 ** 5000, -10 ** 5000,
    "a" * 41, " " * 41, "~" * 41, "a" * 50000,
    "\x1f", "\x7f", "\x00", "\n", "\t", "a\nb", "\xe4", "\u2028", "\U0001f33f", "\ud800", "a" * 39 + "\x7f",
    (1, 2, 3, 4, 5), ((), (), (), (), ()), ((((),),),), (1, (2, (3, (4,)))), (0, ((((1,),),),)),
    True, False, None, [], [1], {}, {1: 2}, set(), frozenset(), 1.0, 0.5, float("nan"), 1j,
    b"", b"a", bytearray(b"a"), range(2), object(), int, len,
]


def nested(thing):
    yield thing
    yield (thing,)
    yield (1, thing)
    yield (1, "a", (), thing)
    yield ((thing,),)
    yield (1, (2, thing))
    yield (((thing,),),)
    yield (1, (2, (3, thing)))
    yield ((), (("", thing, 0), 1))


def tower(height):
    made = ()
    for _ in range(height):
        made = (made,)
    return made


# An order written in another way than the program's: by hand, kind by kind.
def kind_of(key):
    return [int, str, tuple].index(type(key))


def compared(one, other):
    if kind_of(one) != kind_of(other):
        return -1 if kind_of(one) < kind_of(other) else 1
    if isinstance(one, int):
        return (one > other) - (one < other)
    if isinstance(one, str):
        return compared(tuple(map(ord, one)), tuple(map(ord, other)))
    for left, right in zip(one, other):
        if compared(left, right):
            return compared(left, right)
    return (len(one) > len(other)) - (len(one) < len(other))


RISING = [
    -MOST, -10 ** 59, -10, -9, -2, -1, 0, 1, 2, 9, 10, 11, 100, 10 ** 59, MOST,
    "", " ", "  ", " a", "!", "\"", "(", "-1", "0", "1", "10", "2", "9", "A", "Z", "Z" * 40, "[", "\\", "_",
    "a", "a ", "a" * 39, "a" * 40, "ab", "b", "ba", "~", "~" * 40,
    (), (-1,), (-1, 5), (0,), (1,), (1, 1), (1, 1, 1), (1, 1, 1, 1), (1, 1, "a"), (1, 2), (1, "1"), (1, ()),
    (2,), (10,), ("",), ("", ""), ("1",), ("a",), ("a", 0), ("a", "z"), ("a", ()), ("ab",),
    ((),), ((), 0), ((), ()), ((), (1,)), ((1,),), ((1,), 5), ((1, 2),), (("a",),), (((),),), (((), 1),),
    (((), ()),), (((1,),),),
]


class IsKeyTest(unittest.TestCase):
    def test_keys(self):
        for key in KEYS:
            with self.subTest(key=key):
                self.assertIs(is_key(key), True)
                self.assertIs(checked(key), key)

    def test_no_keys(self):
        for thing in NO_KEYS:
            with self.subTest(kind=type(thing).__name__):
                self.assertIs(is_key(thing), False)
                with self.assertRaises(NoKey) as caught:
                    checked(thing)
                self.assertIs(type(caught.exception), NoKey)

    def test_no_keys_at_some_depth(self):
        for thing in NO_KEYS:
            for within in nested(thing):
                self.assertIs(is_key(within), False)
                with self.assertRaises(NoKey):
                    checked(within)

    def test_keys_at_some_depth(self):
        for key in [0, MOST, -MOST, "", "a" * 40]:
            for within in nested(key):
                self.assertIs(is_key(within), True, within)
                self.assertIs(checked(within), within)

    def test_figures(self):
        for sign in (1, -1):
            for first in (1, 5, 9):
                self.assertTrue(is_key(sign * first * 10 ** 59))
                self.assertFalse(is_key(sign * first * 10 ** 60))
            self.assertTrue(is_key(sign * int("9" * 60)))
            self.assertFalse(is_key(sign * int("9" * 61)))

    def test_each_sign(self):
        for place in range(256):
            if place != 37:
                self.assertIs(is_key(chr(place)), 32 <= place <= 126, place)
                self.assertIs(is_key("a" + chr(place) + "b"), 32 <= place <= 126, place)

    def test_lengths(self):
        for length in range(45):
            self.assertIs(is_key("x" * length), length <= 40)
        for length in range(8):
            self.assertIs(is_key((0,) * length), length <= 4)
            self.assertIs(is_key(((0,) * length, 1)), length <= 4)
            self.assertIs(is_key((1, ("", (0,) * length))), length <= 4)

    def test_towers(self):
        for height in range(8):
            self.assertIs(is_key(tower(height)), height <= 2)
            self.assertIs(is_key((0, tower(height))), height <= 1)
        self.assertIs(is_key(tower(20000)), False)

    def test_the_documents_own(self):
        self.assertTrue(is_key((1, (2, (3,)))))
        self.assertFalse(is_key(((((),),),)))

    def test_equal_but_of_another_kind(self):
        self.assertTrue(is_key(1))
        self.assertFalse(is_key(True))
        self.assertTrue(is_key((1, 0)))
        self.assertFalse(is_key((True, 0)))
        self.assertFalse(is_key((1, False)))
        self.assertTrue(is_key(1))
        self.assertFalse(is_key(1.0))
        self.assertIs(type(checked(1)), int)
        self.assertIs(type(checked("1")), str)
        self.assertNotEqual(checked(1), checked("1"))


class OrderTest(unittest.TestCase):
    def test_rising_by_pairs(self):
        for one, other in itertools.product(range(len(RISING)), repeat=2):
            self.assertIs(ahead(RISING[one], RISING[other]), one < other, (RISING[one], RISING[other]))

    def test_against_another_order(self):
        small = [0, -1, 1, "", "0", "a", ()]
        pairs = [tuple(pair) for pair in itertools.product(small, repeat=2)]
        keys = small + [(thing,) for thing in small] + pairs + [(pair,) for pair in pairs] + [(0, ((1,), "a"))]
        for one, other in itertools.product(keys, repeat=2):
            self.assertIs(ahead(one, other), compared(one, other) < 0, (one, other))

    def test_no_key_is_ahead_of_itself(self):
        for key in KEYS + RISING:
            self.assertIs(ahead(key, key), False)

    def test_kinds(self):
        self.assertTrue(ahead(MOST, ""))
        self.assertTrue(ahead("~" * 40, ()))
        self.assertTrue(ahead(MOST, ()))
        self.assertTrue(ahead(1, "1"))
        self.assertFalse(ahead("1", 1))
        self.assertFalse(ahead((-1,), "a"))
        self.assertFalse(ahead((), 5))

    def test_order_of_every_turn(self):
        few = [0, -1, "", "a", (), (1,)]
        for turned in itertools.permutations(few):
            self.assertEqual(order(list(turned)), [-1, 0, "", "a", (), (1,)])

    def test_order_rises(self):
        for seed in range(20):
            turned = list(RISING)
            random.Random(seed).shuffle(turned)
            self.assertEqual(order(turned), RISING)
        self.assertEqual(order(RISING[::-1]), RISING)

    def test_order_keeps_alike_keys_side_by_side(self):
        self.assertEqual(order(["1", 1, (1,), 1, "1", (1,), 1]), [1, 1, 1, "1", "1", (1,), (1,)])
        self.assertEqual(order(RISING[::-1] + RISING), [key for key in RISING for _ in range(2)])

    def test_order_of_few_and_of_many(self):
        self.assertEqual(order([]), [])
        self.assertEqual(order([(1,)]), [(1,)])
        self.assertEqual(order([(7 * place) % 400 for place in range(400)]), list(range(400)))

    def test_order_of_all_keys_that_other_tests_have_in_order(self):
        rising = sorted(PLACES, key=PLACES.get)
        self.assertEqual(order(rising[::-1]), rising)
        self.assertEqual(sorted(rising[::-1], key=place_plainly), rising)

    def test_order_leaves_what_was_handed_in(self):
        handed = ["b", 2, (), 1, "a", 1]
        told = order(handed)
        self.assertEqual(handed, ["b", 2, (), 1, "a", 1])
        self.assertEqual(told, [1, 1, 2, "a", "b", ()])

    def test_told_lists_are_the_askers_own(self):
        for handed in ([], [1], [1, 2, "a"], [2, 1]):
            first = order(handed)
            self.assertIsNot(first, handed)
            kept = list(first)
            first.append("changed")
            first.reverse()
            self.assertEqual(order(handed), kept)
        handed = [3, 1, 2]
        told = order(handed)
        handed.clear()
        self.assertEqual(told, [1, 2, 3])
        self.assertEqual(order([3, 1, 2]), [1, 2, 3])
        self.assertEqual(order([]), [])


class PlaceInTest(unittest.TestCase):
    def test_of_no_keys(self):
        for key in KEYS:
            self.assertEqual(place_in([], key), 0)

    def test_each_rising_key(self):
        for place, key in enumerate(RISING):
            self.assertEqual(place_in(RISING, key), place)
            without = RISING[:place] + RISING[place + 1:]
            self.assertEqual(place_in(without, key), place)

    def test_alike_keys_are_not_ahead(self):
        self.assertEqual(place_in([1, 1, 1], 1), 0)
        self.assertEqual(place_in([1, 1, 1], 0), 0)
        self.assertEqual(place_in([1, 1, 1], 2), 3)
        self.assertEqual(place_in([0, 1, 1, 1, 2], 1), 1)
        self.assertEqual(place_in([0, 1, 1, 1, 2], 2), 4)
        self.assertEqual(place_in([1, 1, "1", "1", (1,), (1,)], "1"), 2)
        self.assertEqual(place_in([1, 1, "1", "1", (1,), (1,)], (1,)), 4)
        self.assertEqual(place_in([1, 1, "1", "1", (1,), (1,)], ()), 4)

    def test_every_list_of_few_keys(self):
        some = [1, 2, "a", (3,)]
        asked = [0, 1, 2, 3, "", "a", "b", (), (3,), (4,)]
        for length in range(6):
            for keys in itertools.combinations_with_replacement(some, length):
                for key in asked:
                    expected = len([held for held in keys if compared(held, key) < 0])
                    self.assertEqual(place_in(list(keys), key), expected)

    def test_leaves_what_was_handed_in(self):
        handed = [1, 1, "a"]
        self.assertEqual(place_in(handed, "a"), 2)
        self.assertEqual(handed, [1, 1, "a"])
        handed.insert(0, 0)
        self.assertEqual(place_in(handed, "a"), 3)
        self.assertEqual(place_in([1, 1, "a"], "a"), 2)


class DeepTest(unittest.TestCase):
    def test_deep(self):
        for key, depth in [
            (0, 0), (-MOST, 0), ("", 0), ("(())", 0), ((), 1), ((1,), 1), (("a", 2, "", 3), 1), (((),), 2),
            ((1, ()), 2), (((), 1), 2), ((1, (2, (3,))), 3), ((((),),), 3), (((), ((),), 1), 3),
            ((((1,),), (), 0, ""), 3), (((), (), (), ()), 2),
        ]:
            with self.subTest(key=key):
                self.assertEqual(deep(key), depth)
                self.assertIs(type(deep(key)), int)


if __name__ == "__main__":
    unittest.main()

"""What the tests of the shelf and of reading share: trees grown by hand, and what a shelf shows of itself."""

import unittest

from twigmap.errors import NoKey, NoTwig
from twigmap.shelf import Shelf

# Keys of all three kinds in their order, written so that the program's own order isn't asked for it.
RISING = (
    [-10 ** 59] + list(range(-99, 99)) + [10 ** 59]
    + ["", " "] + ["a%03d" % place for place in range(197)] + ["~"]
    + [()] + [(place,) for place in range(50)] + [(50, place) for place in range(50)]
    + [("b%02d" % place,) for place in range(49)] + [("c", ())] + [((), place) for place in range(49)]
)
PLACES = {key: place for place, key in enumerate(RISING)}

# Keys with the signs by which texts are parted and freed, in their order: the texts stand between " " and "a000", the
# tuples between (50, 49) and ("b00",).
ODD_TEXTS = [
    "  ", ' "', '"', '""', '"a b"', "(", "()", '(1 "x")', ")", "-", "0", ";", "; ", "A", "\\", '\\"', "\\\\", "a",
    "a b",
]
ODD_TUPLES = [("",), (" ", "; "), ('"', ("\\", (-1,))), ("(", ")", "a b"), ("\\",)]
ODD = ODD_TEXTS + ODD_TUPLES
PLACES.update({key: PLACES[" "] + (at + 1) / 100 for at, key in enumerate(ODD_TEXTS)})
PLACES.update({key: PLACES[(50, 49)] + (at + 1) / 100 for at, key in enumerate(ODD_TUPLES)})

# A whole number is a leaf of so many rows, a list a stem of such.
PLANS = [
    1, 2, 3, 4,
    [1, 1], [4, 4], [2, 1, 3], [1, 2, 3, 4],
    [[1, 1], [1, 1]], [[1, 2], [3, 4, 1], [1, 1, 1, 1], [4, 4]], [[4, 4, 4, 4], [2, 2]],
    [[[1, 1], [1, 1]], [[1, 1], [1, 1]]], [[[3, 1], [1, 4, 2]], [[2, 2], [1, 1, 3], [4, 1]], [[1, 2, 3, 4], [2, 1]]],
    [[[4] * 4] * 4] * 4,
]

NO_KEYS = [
    True, False, None, 1.0, [], [1], {}, b"a", 10 ** 60, -10 ** 60, "a" * 41, "\n", "\x7f",
    (1, 2, 3, 4, 5), ((((),),),), (1, True), (1, [2]),
]
MISSING = [-1, 3000, 10 ** 70]


def place_plainly(key):
    """Something that stands in Python's order where the key stands in [5]; also of keys that no list here has."""
    if isinstance(key, tuple):
        return (2, [place_plainly(part) for part in key])
    return (0, key) if isinstance(key, int) else (1, [ord(sign) for sign in key])


class Tree:
    """What was put on a shelf: a leaf has rows and no parts, a stem has the rows of its parts."""

    def __init__(self, number, rows, parts):
        self.number = number
        self.rows = rows
        self.parts = parts
        self.keys = [key for key, _ in rows]
        self.height = 1 + parts[0].height if parts else 0

    def twigs(self):
        return [self] + [twig for part in self.parts for twig in part.twigs()]

    def numbers(self):
        return sorted(twig.number for twig in self.twigs())

    def leaves(self):
        return [twig.number for twig in self.twigs() if not twig.parts]

    def label(self):
        return (self.height, self.keys[0], self.keys[-1], len(self.rows))

    def way(self, key):
        place = PLACES[key]
        if not self.parts:
            return [(self.number, len([one for one in self.keys if PLACES[one] < place]))]
        begun = [at for at, part in enumerate(self.parts) if PLACES[part.keys[0]] <= place]
        at = begun[-1] if begun else 0
        return [(self.number, at)] + self.parts[at].way(key)


def rows_for(keys):
    return [(key, ("of", key)) for key in keys]


def put(shelf, shape):
    """A tree of a list of keys, which is a leaf, or of a list of such lists, which is a stem."""
    if not isinstance(shape[0], list):
        rows = rows_for(shape)
        return Tree(shelf.put_leaf(rows), rows, [])
    parts = [put(shelf, part) for part in shape]
    rows = [row for part in parts for row in part.rows]
    return Tree(shelf.put_stem([part.number for part in parts]), rows, parts)


def rows_in(plan):
    return plan if isinstance(plan, int) else sum(rows_in(part) for part in plan)


def shape_of(plan, keys):
    return [next(keys) for _ in range(plan)] if isinstance(plan, int) else [shape_of(part, keys) for part in plan]


def planted(plan):
    """A shelf with some other twigs too, and a tree on it whose keys have others ahead, between and behind."""
    shelf = Shelf()
    put(shelf, [RISING[0:4], RISING[8:10]])
    apart = (len(RISING) - 2) // rows_in(plan)
    tree = put(shelf, shape_of(plan, iter(RISING[1::apart])))
    put(shelf, RISING[2:5])
    shelf.forget()
    return shelf, tree


def asked_keys(tree):
    """Each key of the tree, those right ahead and behind of each, and the outermost ones."""
    places = {0, len(RISING) - 1}
    for key in tree.keys:
        places.update({PLACES[key] - 1, PLACES[key], PLACES[key] + 1})
    return [RISING[place] for place in sorted(places)]


def shown(shelf):
    """All that a shelf tells of its twigs; the looks that this takes are forgotten with all others."""
    deeds = (shelf.look, shelf.label, shelf.holders, shelf.outside, shelf.alone)
    told = {number: tuple(deed(number) for deed in deeds) for number in shelf.numbers()}
    shelf.forget()
    return told, shelf.many()


def looks_of(shelf, deed, *things):
    """What a call tells, and at which twigs it looked."""
    shelf.forget()
    told = deed(shelf, *things)
    return told, shelf.looked()


class TwigCase(unittest.TestCase):
    def assert_refused(self, wanted, deed, *things):
        with self.assertRaises(type(wanted)) as caught:
            deed(*things)
        self.assertIs(type(caught.exception), type(wanted))
        self.assertEqual(vars(caught.exception), vars(wanted))

    def assert_nothing_changed(self, shelf, wanted, deed, *things):
        before = shown(shelf)
        self.assert_refused(wanted, deed, *things)
        self.assertEqual(shown(shelf), before)

    def assert_held(self, shelf, number, holders, outside):
        self.assertEqual((shelf.holders(number), shelf.outside(number)), (holders, outside))


class TreeCase(TwigCase):
    def each_tree(self):
        for plan in PLANS:
            yield planted(plan)

    def assert_refusals(self, deed, *things):
        """NoTwig of the root ahead of NoKey; of None the key alone is asked."""
        shelf, tree = planted([[1, 2], [3, 1]])
        gone = put(shelf, [5]).number
        shelf.let_go(gone)
        for key in NO_KEYS:
            self.assert_refused(NoKey(), deed, shelf, tree.number, key, *things)
            self.assert_refused(NoKey(), deed, shelf, tree.leaves()[0], key, *things)
            self.assert_refused(NoKey(), deed, shelf, None, key, *things)
        for missing in MISSING + [gone]:
            for key in NO_KEYS + [1]:
                self.assert_refused(NoTwig(missing), deed, shelf, missing, key, *things)
        self.assert_refused(NoTwig(0), deed, Shelf(), 0, 1, *things)

    def assert_root_refused(self, deed):
        shelf, _ = planted([1, 1])
        gone = put(shelf, [5]).number
        shelf.let_go(gone)
        for missing in MISSING + [gone]:
            self.assert_refused(NoTwig(missing), deed, shelf, missing)
        self.assert_refused(NoTwig(0), deed, Shelf(), 0)

    def assert_own_lists(self, wanted, deed, *things):
        """A told list that the asker changes changes no later answer."""
        told = deed(*things)
        self.assertEqual(told, wanted)
        self.assertIs(type(told), list)
        told.append("changed")
        told.reverse()
        self.assertEqual(deed(*things), wanted)

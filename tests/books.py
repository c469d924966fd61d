"""What the tests of the book share: a plain book of dicts, and what is asked of each deed by pictures of a shelf."""

import collections
import copy
import re

from audits import NotingShelf, Picture, others_than
from mixes import MixCase, in_rows, joined_plainly, side_in, unlike_plainly
from trees import MISSING, NO_KEYS, ODD
from twigmap.book import Book
from twigmap.errors import NoKey, NoName, NoVersion, Taken, TwigError

KEEPS = ("base", "one", "other")

# Names, and things of all kinds that are none.
NAMES = ["a", "z", "main", "begin", "one", "names", "abcdefghijkl", "zzzzzzzzzzzz"]
NO_NAMES = [
    None, True, False, 0, 1, 1.5, b"a", [], ["a"], (), ("a",), {}, {"a": 1}, {"a"}, frozenset("a"), object(), len, "",
    " ", "A", "Z", "aB", "Main", "a1", "0", "a b", " a", "a ", "a\n", "\na", "a-", "a_b", "-", "a;", '"a"', "a" * 13,
    "abcdefghijklm", "a" * 500, "\xe4", "\xaa", "\u017f", "\u0430", "`", "{", "a\x00",
]

# Deeds that put no twig, and among them such as change nothing at all.
READING = ["side", "rows", "names", "versions", "elders_of", "rows_at", "side_at", "between", "base_of", "story"]
QUIET = READING + ["begin", "mark", "branch", "back", "close", "let_go"]


def is_plain_name(name):
    return type(name) is str and re.fullmatch("[a-z]{1,12}", name) is not None


class PlainBook:
    """Rows are dicts, copied at each mark; who comes from whom is found by going through all versions."""

    def __init__(self):
        self.boughs = {}
        self.lasts = {}
        self.kept = {}
        self.elders = []

    def bough(self, name):
        if not is_plain_name(name) or name not in self.boughs:
            raise NoName(name)
        return self.boughs[name]

    def grow(self, name, number):
        if not is_plain_name(name):
            raise NoName(name)
        if name in self.boughs:
            raise Taken(name)
        rows = {} if number is None else dict(self.version(number))
        self.boughs[name], self.lasts[name] = rows, number

    def version(self, number):
        if number not in self.kept:
            raise NoVersion(number)
        return self.kept[number]

    def check(self, *things):
        if any(thing is wrong for thing in things for wrong in NO_KEYS):
            raise NoKey()

    def begin(self, name):
        self.grow(name, None)

    def branch(self, name, number):
        self.grow(name, number)

    def back(self, name, number):
        self.bough(name)
        self.boughs[name], self.lasts[name] = dict(self.version(number)), number

    def close(self, name):
        self.bough(name)
        del self.boughs[name], self.lasts[name]

    def put(self, name, key, value):
        rows = self.bough(name)
        self.check(key, value)
        changed = side_in(rows, key) != [value]
        rows[key] = value
        return changed

    def take(self, name, key):
        told = self.side(name, key)
        self.boughs[name].pop(key, None)
        return told

    def side(self, name, key):
        rows = self.bough(name)
        self.check(key)
        return side_in(rows, key)

    def rows(self, name):
        return in_rows(self.bough(name))

    def names(self):
        return list(self.boughs)

    def mark(self, name):
        self.bough(name)
        return self.add(name, [] if self.lasts[name] is None else [self.lasts[name]])

    def add(self, name, elders):
        number = len(self.elders)
        self.elders.append(elders)
        self.kept[number] = dict(self.boughs[name])
        self.lasts[name] = number
        return number

    def meet(self, name, number, keep):
        rows, last = self.bough(name), self.lasts[name]
        other = self.version(number)
        base = None if last is None else self.greatest(last, number)
        self.boughs[name], clashes = joined_plainly({} if base is None else self.kept[base], rows, other, keep)
        elders = [number] if last is None or last == number else [last, number]
        return self.add(name, elders), clashes

    def comes_from(self, number):
        found = {number}
        for younger in range(number, -1, -1):
            if younger in found:
                found.update(self.elders[younger])
        return found

    def greatest(self, one, other):
        return max(self.comes_from(one) & self.comes_from(other) & set(self.kept), default=None)

    def let_go(self, number):
        self.version(number)
        del self.kept[number]

    def versions(self):
        return sorted(self.kept)

    def elders_of(self, number):
        if number not in range(len(self.elders)):
            raise NoVersion(number)
        return list(self.elders[number])

    def rows_at(self, number):
        return in_rows(self.version(number))

    def side_at(self, number, key):
        rows = self.version(number)
        self.check(key)
        return side_in(rows, key)

    def between(self, one, other):
        return unlike_plainly(self.version(one), self.version(other))

    def base_of(self, one, other):
        self.version(one), self.version(other)
        return self.greatest(one, other)

    def ahead_of(self, number):
        """The rows of the version ahead, by first elders, past such as were let go."""
        if not self.elders[number]:
            return {}
        first = self.elders[number][0]
        return self.kept[first] if first in self.kept else self.ahead_of(first)

    def story(self, key):
        self.check(key)
        sides = [(number, side_in(self.kept[number], key)) for number in self.versions()]
        return [(number, side) for number, side in sides if side != side_in(self.ahead_of(number), key)]

    def tables(self):
        """The rows of each bough and each kept version that has some."""
        return [in_rows(rows) for rows in [*self.boughs.values(), *self.kept.values()] if rows]


class Pair:
    """A book and a plain one that have the same deeds, and the numbers that others hold on the shelf."""

    def __init__(self, shelf=None):
        self.shelf = NotingShelf() if shelf is None else shelf
        self.book = Book(self.shelf)
        self.plain = PlainBook()
        self.held = []


def spoil(told):
    """Changes every list in what was told, all the way down."""
    if isinstance(told, (list, tuple)):
        for part in told:
            spoil(part)
    if isinstance(told, list):
        told.append("changed")
        told.reverse()


def all_told(book, known):
    """All that a book tells by itself."""
    names, versions = book.names(), book.versions()
    return (
        [(name, book.rows(name)) for name in names], [(number, book.rows_at(number)) for number in versions],
        [book.elders_of(number) for number in range(known)],
    )


class BookCase(MixCase):
    def at_both(self, pair, deed, *things):
        """A deed at both books; told is what both tell, or the refusal's class. What was told is spoiled behind it."""
        before, rows = Picture(pair.shelf), copy.deepcopy(pair.plain.boughs)
        try:
            wanted = getattr(pair.plain, deed)(*things)
        except TwigError as refusal:
            self.refuse(pair, refusal, deed, *things)
            return type(refusal)
        pair.shelf.puts = []
        told = getattr(pair.book, deed)(*things)
        after = Picture(pair.shelf)
        self.assertEqual(told, wanted)
        self.assertIs(type(told), type(wanted))
        self.assert_change(pair, deed, things, before, after, rows)
        self.assert_just_held(after, pair.held, [pair])
        spoil(told)
        self.assert_book(pair)
        return wanted

    def all_at_both(self, pair, *rows):
        return [self.at_both(pair, *row) for row in rows]

    def refuse(self, pair, wanted, deed, *things):
        known = len(pair.plain.elders)
        told, before = all_told(pair.book, known), Picture(pair.shelf)
        self.assert_refused(wanted, getattr(pair.book, deed), *things)
        self.assertEqual(Picture(pair.shelf), before)
        self.assertEqual(all_told(pair.book, known), told)

    def assert_book(self, pair):
        plain = pair.plain
        self.assertEqual(all_told(pair.book, len(plain.elders)), (
            [(name, in_rows(rows)) for name, rows in plain.boughs.items()],
            [(number, in_rows(plain.kept[number])) for number in sorted(plain.kept)], plain.elders,
        ))

    def assert_just_held(self, picture, held, pairs):
        """[40], [85]: a hold for each bough and each kept version that has rows, and what others hold; no twig else."""
        self.assert_even(picture)
        self.assertEqual(set(picture.found), picture.reached_by(picture.holds()))
        holds = collections.Counter(picture.holds())
        holds.subtract(held)
        self.assertGreaterEqual(min(holds.values(), default=0), 0)
        self.assert_rows_held(picture, holds.elements(), pairs)

    def assert_rows_held(self, picture, holds, pairs):
        rows = collections.Counter(repr(picture.rows(number)) for number in holds)
        self.assertEqual(rows, collections.Counter(repr(rows) for pair in pairs for rows in pair.plain.tables()))

    def assert_change(self, pair, deed, things, before, after, boughs):
        """What a deed may change on the shelf; boughs are their rows ahead of it."""
        if deed in READING:
            self.assertEqual(after, before)
        if deed in QUIET:
            self.assertEqual(pair.shelf.puts, [])
        stayed = set(before.found) & set(after.found)
        changed = {one for one in stayed if (before.found[one], before.labels[one]) != (after.found[one],
                                                                                        after.labels[one])}
        if deed in ("put", "take"):
            rows = in_rows(boughs[things[0]])
            reaching = [number for number in before.holds() if changed & set(before.reach(number))]
            self.assertIn([before.rows(number) for number in reaching], ([], [rows]))
            self.assert_as_a_table(before, after, rows, pair.plain.boughs[things[0]])
        else:
            self.assertEqual(changed, set())
        if deed == "meet":
            beside = [boughs[things[0]], pair.plain.kept[things[1]]]
            most = max(len(unlike_plainly(pair.plain.boughs[things[0]], rows)) for rows in beside)
            self.assertLessEqual(len(set(after.found) - set(before.found)), 20 * most)

    def assert_as_a_table(self, before, after, old, new):
        """[42], [43], where but one root has the bough's rows."""
        roots = {number for number in before.holds() if before.rows(number) == old} if old else {None}
        if len(roots) == 1:
            root = roots.pop()
            left = collections.Counter(after.holds())
            left.subtract(others_than(before.holds(), root))
            self.assertEqual(sorted(left.elements()), sorted(+left))
            self.assert_deed(before, root, after, next(left.elements(), None), new, dict(old) != new)

    def end_both(self, pair):
        """Where all boughs are closed and all versions let go just what others hold is there."""
        for name in pair.plain.names():
            self.assertIsNone(self.at_both(pair, "close", name))
        for number in pair.plain.versions():
            self.assertIsNone(self.at_both(pair, "let_go", number))
        picture = Picture(pair.shelf)
        self.assertEqual(picture.holds(), sorted(pair.held))
        self.assertEqual(set(picture.found), picture.reached_by(pair.held))


# How often each deed of a book is drawn.
WEIGHTS = {
    "begin": 4, "branch": 5, "back": 4, "close": 2, "put": 40, "take": 22, "side": 3, "rows": 2, "names": 2, "mark": 14,
    "meet": 12, "let_go": 7, "versions": 2, "elders_of": 3, "rows_at": 3, "side_at": 4, "between": 4, "base_of": 4,
    "story": 4, "wrong": 5,
}
WANTED = {
    "begin": ["name"], "branch": ["name", "number"], "back": ["name", "number"], "close": ["name"],
    "put": ["name", "key", "value"], "take": ["name", "key"], "side": ["name", "key"], "rows": ["name"], "names": [],
    "mark": ["name"], "meet": ["name", "number", "keep"], "let_go": ["number"], "versions": [], "elders_of": ["number"],
    "rows_at": ["number"], "side_at": ["number", "key"], "between": ["number", "number"],
    "base_of": ["number", "number"], "story": ["key"],
}


class Drawn:
    """Draws deeds of a book, most of them such as can be done."""

    def __init__(self, chance, plain, keys, names, most):
        self.chance = chance
        self.plain = plain
        self.keys = keys
        self.all_names = names
        self.most = most

    def deed(self, weights):
        """A deed and the things to hand in; a version goes where there would be too many."""
        if len(self.plain.kept) > self.most:
            return "let_go", [self.chance.choice(self.plain.versions())]
        deed = self.chance.choices(list(weights), list(weights.values()))[0]
        if deed == "wrong":
            deed = self.chance.choice([deed for deed in WANTED if WANTED[deed]])
            things = self.things(deed)
            for at in self.chance.sample(range(len(things)), self.chance.randint(1, len(things))):
                things[at] = self.wrong(WANTED[deed][at], things[at])
            return deed, things
        return deed, self.things(deed)

    def things(self, deed):
        return [getattr(self, kind)(deed) for kind in WANTED[deed]]

    def name(self, deed):
        free = [name for name in self.all_names if name not in self.plain.boughs]
        fitting = free if deed in ("begin", "branch") else list(self.plain.boughs)
        return self.chance.choice(fitting if fitting and self.chance.random() < 0.95 else self.all_names)

    def number(self, deed):
        if self.plain.kept and self.chance.random() < 0.95:
            return self.chance.choice(self.plain.versions())
        return self.chance.randint(-1, len(self.plain.elders) + 1)

    def key(self, deed):
        rows = [key for rows in self.plain.boughs.values() for key in rows]
        return self.chance.choice(rows if rows and deed == "take" and self.chance.random() < 0.7 else self.keys)

    def value(self, deed):
        return self.chance.choice(["x", "y", 7, (), *ODD])

    def keep(self, deed):
        return self.chance.choice(KEEPS)

    def wrong(self, kind, thing):
        wrongs = {"name": NO_NAMES + self.all_names, "number": MISSING, "key": NO_KEYS, "value": NO_KEYS,
                  "keep": [thing]}
        return self.chance.choice(wrongs[kind])

"""What the tests of texts share: patterns of keys' texts, rows of twigs written and held up plainly, a plain desk."""

import re

from trees import place_plainly
from twigmap.errors import NoRow
from twigmap.shows import read

FREED = r'(?:[ !#-\[\]-~]|\\["\\])'
FLAT = r'(?:0|-?[1-9][0-9]{0,59}|"' + FREED + '{0,40}")'


def one_deeper(inner):
    return r"\((?:%s(?: %s){0,3})?\)" % (inner, inner)


ONE = "(?:%s|%s)" % (FLAT, one_deeper(FLAT))
TWO = "(?:%s|%s)" % (FLAT, one_deeper(ONE))
KEY = re.compile("(?:%s|%s)" % (FLAT, one_deeper(TWO)))
KEYS = re.compile("(?:%s)(?: (?:%s))*" % (KEY.pattern, KEY.pattern))


def show_plainly(key):
    if isinstance(key, tuple):
        return "(" + " ".join(show_plainly(part) for part in key) + ")"
    return str(key) if isinstance(key, int) else '"' + re.sub(r'(["\\])', r"\\\1", key) + '"'


def written_plainly(picture, roots):
    """[90] word by word, of a picture of the shelf."""
    order = []
    for root in roots:
        order.extend(number for number in upwards(picture, root) if number not in order)
    rows = []
    for number in order:
        kind, things = picture.found[number]
        if kind == "leaf":
            rows.append("leaf " + " ".join(show_plainly(key) + " " + show_plainly(value) for key, value in things))
        else:
            rows.append("stem " + " ".join(str(order.index(branch)) for branch in things))
    return rows + ["root " + ("-" if root is None else str(order.index(root))) for root in roots]


def upwards(picture, root):
    if root is None:
        return []
    return [number for branch in picture.branches(root) for number in upwards(picture, branch)] + [root]


NUMBER = "(?:0|[1-9][0-9]*)"
LEAF = re.compile("leaf (%s)" % KEYS.pattern)
STEM = re.compile("stem (%s(?: %s)*)" % (NUMBER, NUMBER))
ROOT = re.compile("root (-|%s)" % NUMBER)


class PlainRows:
    """[91] word by word: fault is the number of the first row that can't stand, None where all is well."""

    def __init__(self, rows):
        self.twigs = []
        self.roots = []
        self.used = []
        self.fault = next((at for at, row in enumerate(rows) if not self.stands(row)), None)
        if self.fault is None:
            stems = [twig for twig in self.twigs if isinstance(twig[0], int)]
            self.used = [branch for stem in stems for branch in stem]
            self.used += [root for root in self.roots if root is not None]
            self.fault = None if set(self.used) == set(range(len(self.twigs))) else len(rows)

    def stands(self, row):
        if not isinstance(row, str):
            return False
        leaf, stem, root = [pattern.fullmatch(row) for pattern in (LEAF, STEM, ROOT)]
        if root:
            self.roots.append(None if root[1] == "-" else self.number(root[1]))
            return self.roots[-1] != "none"
        numbers = [self.number(word) for word in stem[1].split(" ")] if stem else []
        self.twigs.append(leaf_rows(leaf[1]) if leaf else numbers)
        return self.roots == [] and self.is_twig(self.twigs[-1])

    def number(self, word):
        """A text that is no number of a twig ahead may be as long as it likes."""
        return int(word) if len(word) < 9 and int(word) < len(self.twigs) else "none"

    def is_twig(self, things):
        if "none" in things:
            return False
        if things and isinstance(things[0], int):
            keys = [key for number in things for key in self.keys(number)]
            high = {self.height(number) for number in things}
            return 2 <= len(things) <= 4 and len(high) == 1 and rise_plainly(keys)
        keys = [key for key, *_ in things]
        return 1 <= len(things) <= 4 and all(len(row) == 2 for row in things) and rise_plainly(keys)

    def height(self, number):
        twig = self.twigs[number]
        return 1 + self.height(twig[0]) if isinstance(twig[0], int) else 0

    def rows(self, number):
        twig = self.twigs[number]
        return [row for branch in twig for row in self.rows(branch)] if isinstance(twig[0], int) else twig

    def keys(self, number):
        return [key for key, _ in self.rows(number)]


def leaf_rows(text):
    """Tuples of two keys, the last one perhaps of one."""
    keys, at = [], 0
    while at < len(text):
        found = KEY.match(text, at)
        keys.append(read(found[0]))
        at = found.end() + 1
    return [tuple(keys[place:place + 2]) for place in range(0, len(keys), 2)]


def rise_plainly(keys):
    places = [place_plainly(key) for key in keys]
    return all(place < following for place, following in zip(places, places[1:]))


def side_plainly(side):
    return show_plainly(side[0]) if side else "-"


def sides_plainly(rows):
    return [" ".join([show_plainly(key), *map(side_plainly, sides)]) for key, *sides in rows]


def rows_plainly(rows):
    return [show_plainly(key) + " " + show_plainly(value) for key, value in rows]


def ok(told):
    return ["ok"]


# [92]: each row, the book's deed, and the parts of the answer by what the book tells.
FORMS = [
    ("begin NAME", "begin", ok), ("branch NAME NUMBER", "branch", ok), ("back NAME NUMBER", "back", ok),
    ("close NAME", "close", ok), ("drop NUMBER", "let_go", ok),
    ("put NAME KEY VALUE", "put", lambda told: ["yes" if told else "no"]),
    ("take NAME KEY", "take", lambda told: [side_plainly(told)]),
    ("get NAME KEY", "side", lambda told: [side_plainly(told)]),
    ("at NUMBER KEY", "side_at", lambda told: [side_plainly(told)]),
    ("rows NAME", "rows", rows_plainly), ("all NUMBER", "rows_at", rows_plainly),
    ("mark NAME", "mark", lambda told: [str(told)]),
    ("meet NAME NUMBER KEEP", "meet", lambda told: [str(told[0]), *sides_plainly(told[1])]),
    ("between NUMBER NUMBER", "between", sides_plainly),
    ("base NUMBER NUMBER", "base_of", lambda told: [] if told is None else [str(told)]),
    ("story KEY", "story", lambda told: ["%d %s" % (number, side_plainly(side)) for number, side in told]),
    ("names", "names", list), ("versions", "versions", lambda told: list(map(str, told))),
]
WORDS = {
    "NAME": "([a-z]{1,12})", "NUMBER": "(0|[1-9][0-9]{0,8})", "KEEP": "(base|one|other)", "KEY": "(%s)" % KEY.pattern,
    "VALUE": "(%s)" % KEY.pattern,
}
READERS = {"NUMBER": int, "KEY": read, "VALUE": read}
PATTERNS = [(re.compile(" ".join(WORDS.get(word, word) for word in form.split())), form.split()[1:], deed, tell)
            for form, deed, tell in FORMS]
FORM_OF = {deed: form.split() for form, deed, _ in FORMS}


class PlainDesk:
    """Answers by a plain book; a book on a shelf has the same deeds, so that its twigs can be counted."""

    def __init__(self, plain, book):
        self.plain = plain
        self.book = book

    def say(self, row):
        if row == "twigs":
            return str(self.book.shelf.many())
        for pattern, words, deed, tell in PATTERNS:
            found = pattern.fullmatch(row) if isinstance(row, str) else None
            if found:
                things = [READERS.get(word, str)(text) for word, text in zip(words, found.groups())]
                told = getattr(self.plain, deed)(*things)
                getattr(self.book, deed)(*things)
                return "; ".join(tell(told)) or "nothing"
        raise NoRow(0)


def row_plainly(deed, things):
    """The desk's row for a deed of the book."""
    shows = [show_plainly(thing) if word in ("KEY", "VALUE") else str(thing)
             for word, thing in zip(FORM_OF[deed][1:], things)]
    return " ".join(FORM_OF[deed][:1] + shows)

"""[1], [7]: the whole program: long runs of all deeds of tables, a book and texts side by side on one shelf."""

import collections
import os
import pathlib
import subprocess
import sys
import unittest

from audits import NotingShelf, Picture
from books import WEIGHTS, BookCase, Drawn, Pair
from sayings import written_plainly
from scenes import JoinSceneCase, Scene
from trees import ODD
from twigmap.texts import read_shelf, written

# How many keys, tables and deeds there are.
RUNS = [(12, 5, 300), (30, 6, 300), (90, 6, 240), (300, 4, 100)]
OF_TABLES = {
    "put": 10, "take": 10, "put again": 3, "take nothing": 3, "fork": 4, "clear": 3, "no key": 3, "hold": 3,
    "let go": 4,
    "hold as table": 3, "put stem": 5, "put leaf": 3, "filled": 3, "bonded": 9, "spliced": 4, "overlap": 3, "cut": 3,
    "span": 3, "gapped": 3, "wrong": 3, "unlike": 4, "done": 4, "done and back": 4, "done stale": 4, "behind": 3,
    "behind stale": 6, "joined": 4, "joined forks": 4, "laid": 3, "met": 3, "less": 3, "read again": 5,
}


class TextSceneCase(JoinSceneCase):
    def do_read_again(self, scene, at):
        """Written and read, tables go on by themselves on the new shelf; nothing changes on the old one."""
        tables = scene.chance.sample(scene.tables, scene.chance.randint(1, len(scene.tables)))
        roots = [table.root for table in tables] + scene.held[:1] + [None]
        before = Picture(scene.shelf)
        rows = written(scene.shelf, roots)
        self.assertEqual(rows, written_plainly(before, roots))
        shelf, again = read_shelf(rows)
        picture = Picture(shelf)
        self.assert_even(picture)
        self.assertEqual(len(picture.found), len(rows) - len(roots))
        self.assertEqual(picture.holds(), sorted(table.root for table in again if table.root is not None))
        self.assertEqual([picture.rows(table.root) for table in again], [before.rows(root) for root in roots])
        self.assertEqual(written(shelf, [table.root for table in again]), rows)
        self.go_on(scene, again)
        self.assertEqual(Picture(scene.shelf), before)
        return True

    def go_on(self, scene, tables):
        dicts = [dict(table.rows()) for table in tables]
        for _ in range(6):
            at, key = scene.chance.randrange(len(tables)), scene.chance.choice(scene.keys)
            if key in dicts[at]:
                self.assertTrue(self.take_audited(tables[at], key))
                dicts[at].pop(key)
            else:
                self.assertTrue(self.put_audited(tables[at], key, "new"))
                dicts[at][key] = "new"
            self.assertEqual([dict(table.rows()) for table in tables], dicts)


class TablesTest(TextSceneCase):
    """Tables that move from shelf to shelf by texts."""

    def test_deeds(self):
        self.run_all(range(3), RUNS, {**OF_TABLES, "read again": 3, "move": 5})

    def do_move(self, scene, at):
        roots = [table.root for table in scene.tables]
        shelf, tables = read_shelf(written(scene.shelf, roots))
        self.end(scene)
        scene.shelf, scene.tables, scene.held = shelf, tables, []
        return True


class WholeTest(TextSceneCase, BookCase):
    """Tables and a book on one shelf, and an asker who holds twigs of both."""

    def scene(self, seed, keys, most):
        scene = Scene(seed, keys, most, NotingShelf())
        scene.pair = Pair(scene.shelf)
        scene.drawn = Drawn(scene.chance, scene.pair.plain, scene.keys + ODD[::3], ["a", "bough", "names", "c"], 12)
        return scene

    def test_deeds(self):
        self.told = collections.Counter()
        self.run_all(range(5), RUNS, {**OF_TABLES, "book": 140, "hold in book": 12})
        for deed in set(WEIGHTS) - {"wrong"}:
            self.assertGreater(self.told[deed], 5, deed)

    def do_book(self, scene, at):
        pair = scene.pair
        pair.held = scene.held + [table.root for table in scene.tables if table.root is not None]
        deed, things = scene.drawn.deed(WEIGHTS)
        self.told[deed] += not isinstance(self.at_both(pair, deed, *things), type)
        return True

    def do_hold_in_book(self, scene, at):
        """Any twig of the shelf, so that tables come to share twigs with boughs and versions."""
        if scene.shelf.many():
            scene.held.append(scene.chance.choice(scene.shelf.numbers()))
            scene.shelf.hold(scene.held[-1])
        return scene.shelf.many() > 0

    def assert_held_by_others(self, scene, picture, holds):
        self.assert_rows_held(picture, holds, [scene.pair])
        self.assert_book(scene.pair)

    def end(self, scene):
        scene.pair.held = scene.held + [table.root for table in scene.tables if table.root is not None]
        self.end_both(scene.pair)
        super().end(scene)


# All modules are drawn in first; from then on each event that Python notes, such as of a file, is told.
SCRIPT = """
import sys
known = set(sys.modules)
from twigmap.bonds import bonded
from twigmap.cuts import cut, gapped
from twigmap.desk import Desk
from twigmap.lays import laid, less, met
from twigmap.tables import Table
from twigmap.texts import read_shelf, written
events = []
others = [name for name in sorted(set(sys.modules) - known) if name.split(".")[0] != "twigmap"]
told = []
sys.addaudithook(lambda event, things: events.append(event))
desk = Desk()
for row in ["begin a", "begin b"] + [
    "put %s %s %d" % ("ab"[at % 2], key, at) for at, key in enumerate(['"x"', "3", "()", '(1 "y")', '"z z"', "-7"] * 9)
] + ["mark a", "branch c 0", 'put c "x" "c"', "mark c", "put a 3 ()", "take b 3", "meet a 1 one", "mark b",
     "meet b 2 other", "rows a", "rows b", "between 0 2", "story 3", "names", "versions", "twigs", "base 2 4", "drop 1",
     "twigs"]:
    told.append(desk.say(row))
shelf, tables = read_shelf([])
table = Table(shelf)
for at in range(60):
    table.put(("k", at * 37 % 60), str(at))
fork = table.fork()
for at in range(0, 60, 7):
    fork.take(("k", at))
parts = cut(fork, ("k", 31))
tables = [table, fork, *parts, bonded(*parts), gapped(table, ("k", 3), ("k", 9)), laid(table, fork), met(table, fork),
          less(table, fork)]
told.extend(written(shelf, [table.root for table in tables]))
told.append((shelf.numbers(), shelf.looked()))
found = list(events)
print(others)
print(found)
print("\\n".join(map(str, told)))
"""


class SameEachTimeTest(unittest.TestCase):
    """Nothing comes from a clock, chance or files."""

    def run_script(self, seed):
        root = pathlib.Path(__file__).resolve().parent.parent
        surroundings = {**os.environ, "PYTHONPATH": str(root), "PYTHONHASHSEED": seed}
        done = subprocess.run(
            [sys.executable, "-c", SCRIPT], env=surroundings, cwd="/", capture_output=True, text=True, check=True)
        return done.stdout

    def test_the_same_answers_each_time(self):
        first = self.run_script("0")
        for seed in ("0", "1", "2", "77"):
            self.assertEqual(self.run_script(seed), first)

    def test_nothing_else_is_drawn_in_or_opened(self):
        lines = self.run_script("3").split("\n")
        self.assertEqual(lines[:2], ["[]", "[]"])
        self.assertGreater(len(lines), 100)


if __name__ == "__main__":
    unittest.main()

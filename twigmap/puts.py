"""Putting a row in below a root."""

from twigmap.keys import checked
from twigmap.owns import check_root, own_way
from twigmap.twigs import MOST_BRANCHES, MOST_ROWS
from twigmap.ways import steps_to

# How many of five things stay in a twig that can't have them all; the others go into a new one.
KEPT = 3


def put_in(shelf, root, key, value):
    check_root(shelf, root)
    row = (checked(key), checked(value))
    if root is None:
        return shelf.put_leaf([row])
    steps = steps_to(shelf, root, key)
    rows = steps[-1][2][1]
    if row in rows:
        return root
    owned = own_way(shelf, steps)
    added = give_rows(shelf, owned[-1], rows_with(rows, row, steps[-1][1]))
    places = [step[1] + 1 for step in steps[:-1]]
    return root_with(shelf, owned[0], add_up(shelf, owned[:-1], places, added))


def rows_with(rows, row, at):
    return rows[:at] + [row] + [other for other in rows[at:] if other[0] != row[0]]


# Told here, by add_branch and by add_up is the number of the new twig that stands right behind, None where
# there is none.
def give_rows(shelf, leaf, rows):
    if len(rows) <= MOST_ROWS:
        shelf.change_leaf(leaf, rows)
        return None
    shelf.change_leaf(leaf, rows[:KEPT])
    return shelf.put_leaf(rows[KEPT:])


def add_branch(shelf, stem, at, number):
    branches = shelf.look(stem)[1]
    branches.insert(at, number)
    if len(branches) <= MOST_BRANCHES:
        shelf.change_stem(stem, branches)
        return None
    shelf.change_stem(stem, branches[:KEPT])
    return shelf.put_stem(branches[KEPT:])


# The stems stand one below the other. The added twig (None is none) goes into the lowest one at its place,
# what a stem can't have any more into the one above it.
def add_up(shelf, stems, places, added):
    over = added
    for at in range(len(stems) - 1, -1, -1):
        if over is None:
            return None
        over = add_branch(shelf, stems[at], places[at], over)
    return over


def root_with(shelf, root, added):
    if added is None:
        return root
    return shelf.put_stem([root, added])

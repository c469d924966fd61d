"""Putting a row in below a root."""

from twigmap.keys import checked
from twigmap.owns import check_root, own_way
from twigmap.twigs import MOST_BRANCHES, MOST_ROWS
from twigmap.ways import steps_to

# How many of five things stay in a twig that can't have them all; the others go into a new one.
KEPT = 3


def put_in(shelf, root, key, value):
    check_root(shelf, root)
    row = (checked(key), checked(value))
    if root is None:
        return shelf.put_leaf([row])
    steps = steps_to(shelf, root, key)
    rows = steps[-1][2][1]
    if row in rows:
        return root
    owned = own_way(shelf, steps)
    added = give_rows(shelf, owned[-1], rows_with(rows, row, steps[-1][1]))
    place = len(owned) - 1
    while added is not None and place > 0:
        place -= 1
        added = add_branch(shelf, owned[place], steps[place][1] + 1, added)
    if added is None:
        return owned[0]
    return shelf.put_stem([owned[0], added])


def rows_with(rows, row, at):
    return rows[:at] + [row] + [other for other in rows[at:] if other[0] != row[0]]


# This and add_branch tell the number of the new twig that stands right behind, None where there is none.
def give_rows(shelf, leaf, rows):
    if len(rows) <= MOST_ROWS:
        shelf.change_leaf(leaf, rows)
        return None
    shelf.change_leaf(leaf, rows[:KEPT])
    return shelf.put_leaf(rows[KEPT:])


def add_branch(shelf, stem, at, number):
    branches = shelf.look(stem)[1]
    branches.insert(at, number)
    if len(branches) <= MOST_BRANCHES:
        shelf.change_stem(stem, branches)
        return None
    shelf.change_stem(stem, branches[:KEPT])
    return shelf.put_stem(branches[KEPT:])

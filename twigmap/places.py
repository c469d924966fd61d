"""Rows by their places, and places by keys."""

from twigmap.errors import NoPlace
from twigmap.keys import ahead, checked
from twigmap.twigs import MANY
from twigmap.ways import check_asked, is_leaf, steps_to


# How many rows there are is asked first, whatever the place is: it refuses where there is no such root.
def nth(shelf, root, at):
    many = rows_under(shelf, root)
    if not 0 <= at < many:
        raise NoPlace(at)
    found = shelf.look(root)
    left = at
    while not is_leaf(found):
        step = branch_with(shelf, found[1], left)
        found = shelf.look(step[0])
        left = step[1]
    return found[1][left]


# The branch that has the row at a place, and the row's place within it.
def branch_with(shelf, branches, at):
    place = 0
    left = at
    while left >= rows_under(shelf, branches[place]):
        left -= rows_under(shelf, branches[place])
        place += 1
    return (branches[place], left)


def place_of(shelf, root, key):
    return sum([rows_ahead(shelf, step) for step in steps_to(shelf, root, key)])


def rows_ahead(shelf, step):
    at = step[1]
    found = step[2]
    if is_leaf(found):
        return at
    return sum([rows_under(shelf, branch) for branch in found[1][:at]])


def from_key(shelf, root, key):
    return row_at(shelf, root, place_of(shelf, root, key))


def before_key(shelf, root, key):
    return row_at(shelf, root, place_of(shelf, root, key) - 1)


def row_at(shelf, root, at):
    try:
        return [nth(shelf, root, at)]
    except NoPlace:
        return []


def many_between(shelf, root, low, high):
    check_asked(shelf, root, low)
    checked(high)
    if not ahead(low, high):
        return 0
    return place_of(shelf, root, high) - place_of(shelf, root, low)


def rows_under(shelf, root):
    if root is None:
        return 0
    return shelf.label(root)[MANY]

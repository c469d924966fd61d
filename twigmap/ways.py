"""Reading from a root down: ways to keys, sides, and all that a root reaches."""

from twigmap.keys import ahead, checked, place_in
from twigmap.twigs import HEIGHT, LEAST


def way_to(shelf, root, key):
    return [(step[0], step[1]) for step in steps_to(shelf, root, key)]


# Followed step by step, not held against way_to: that would look at twigs that don't stand in the list.
def way_holds(shelf, root, key, way):
    check_asked(shelf, root, key)
    number = root
    for step in way:
        if step[0] != number:
            return False
        found = shelf.look(number)
        at = place_within(shelf, found, key)
        if step[1] != at:
            return False
        number = branch_at(found, at)
    return number is None


def value_of(shelf, root, key):
    steps = steps_to(shelf, root, key)
    if steps == []:
        return []
    rows = steps[-1][2][1]
    return [row[1] for row in rows if row[0] == key]


def rows_of(shelf, root):
    rows = []
    for twig in reached(shelf, root):
        if is_leaf(twig[1]):
            rows.extend(twig[1][1])
    return rows


def twigs_of(shelf, root):
    return sorted([twig[0] for twig in reached(shelf, root)])


def leaves_of(shelf, root):
    return [twig[0] for twig in reached(shelf, root) if is_leaf(twig[1])]


def height_of(shelf, root):
    if root is None:
        return -1
    return shelf.label(root)[HEIGHT]


# The steps of the way, each with what was found there as a third thing, so that nobody has to look twice.
def steps_to(shelf, root, key):
    check_asked(shelf, root, key)
    steps = []
    number = root
    while number is not None:
        found = shelf.look(number)
        at = place_within(shelf, found, key)
        steps.append((number, at, found))
        number = branch_at(found, at)
    return steps


# A label refuses where there is no such twig, and is no look.
def check_asked(shelf, root, key):
    if root is not None:
        shelf.label(root)
    checked(key)


# What is found is what a look tells, here and further on.
def place_within(shelf, found, key):
    if is_leaf(found):
        return place_in([row[0] for row in found[1]], key)
    begun = [branch for branch in found[1] if not ahead(key, shelf.label(branch)[LEAST])]
    return max(len(begun) - 1, 0)


def branch_at(found, at):
    if is_leaf(found):
        return None
    return found[1][at]


def is_leaf(found):
    return found[0] == "leaf"


# All twigs that the root reaches as tuples (number, what was found there), in the order of their keys.
def reached(shelf, root):
    if root is None:
        return []
    found = shelf.look(root)
    twigs = [(root, found)]
    if not is_leaf(found):
        for branch in found[1]:
            twigs.extend(reached(shelf, branch))
    return twigs

"""What is unlike below two roots, found without opening what they share."""

from twigmap.keys import order
from twigmap.twigs import HEIGHT
from twigmap.ways import height_of


def unlike(shelf, one, other):
    fronts = fronts_of(shelf, one, other)
    ones = rows_apart(shelf, fronts[0], fronts[1])
    others = rows_apart(shelf, fronts[1], fronts[0])
    keys = order(list(ones) + [key for key in others if key not in ones])
    sides = [(key, side_in(ones, key), side_in(others, key)) for key in keys]
    return [row for row in sides if row[1] != row[2]]


def alike(shelf, one, other):
    return unlike(shelf, one, other) == []


def shared(shelf, one, other):
    fronts = fronts_of(shelf, one, other)
    return [number for number in fronts[0] if number in fronts[1]]


# Of each root a list of twigs below which all its rows lie, in their order: the tops of what both reach, which
# stand in both lists, and the leaves that the other root doesn't reach.
# The highest twigs are opened first: so a twig that one list lacks when its height's turn comes is not reached
# there, or only below a top. And what is below a top is below it in both, as there is but one road to each.
def fronts_of(shelf, one, other):
    top = max(height_of(shelf, one), height_of(shelf, other))
    fronts = (front_of(one), front_of(other))
    for height in range(top, 0, -1):
        fronts = (lowered(shelf, fronts[0], fronts[1], height), lowered(shelf, fronts[1], fronts[0], height))
    return fronts


def front_of(root):
    if root is None:
        return []
    return [root]


# Twigs of this height that the other list lacks give way to their branches.
def lowered(shelf, front, beside, height):
    numbers = []
    for number in front:
        if number in beside or shelf.label(number)[HEIGHT] < height:
            numbers.append(number)
        else:
            numbers.extend(shelf.look(number)[1])
    return numbers


# The rows of the leaves that just one list has. The shared ones needn't be asked: a key of theirs is in no
# other leaf of either root.
def rows_apart(shelf, front, beside):
    rows = {}
    for number in front:
        if number not in beside:
            rows.update(dict(shelf.look(number)[1]))
    return rows


def side_in(rows, key):
    return [rows[key]] if key in rows else []

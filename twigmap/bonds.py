"""Tables bonded: the rows of one ahead of those of another, in the leaves that both had."""

from twigmap.errors import Overlap
from twigmap.keys import ahead
from twigmap.owns import held, own_way
from twigmap.puts import add_up, root_with
from twigmap.tables import Table
from twigmap.twigs import GREATEST, LEAST
from twigmap.ways import height_of, steps_to


def bonded(one, other):
    shelf = one.shelf
    check_apart(shelf, one.root, other.root)
    return Table(shelf, bond(shelf, held(shelf, one.root), held(shelf, other.root)))


def check_apart(shelf, one, other):
    if one is None or other is None:
        return
    least = shelf.label(other)[LEAST]
    if not ahead(shelf.label(one)[GREATEST], least):
        raise Overlap(least)


# The asker has a hold of each root, and then one of the told root instead: so what nobody else holds is
# changed in place.
def bond(shelf, one, other):
    if one is None:
        return other
    if other is None:
        return one
    higher = height_of(shelf, one) - height_of(shelf, other)
    if higher == 0:
        return shelf.put_stem([one, other])
    if higher > 0:
        return grafted(shelf, one, other, higher, 1)
    return grafted(shelf, other, one, -higher, 0)


# The lower root becomes the first or the last branch of a stem, the lowest of so many on the way to it.
# Behind is 1 where it stands behind all rows of the root, 0 where it stands ahead of them.
def grafted(shelf, root, lower, stems, behind):
    steps = steps_to(shelf, root, shelf.label(lower)[LEAST])[:stems]
    owned = own_way(shelf, steps)
    places = [step[1] + 1 for step in steps[:-1]] + [steps[-1][1] + behind]
    return root_with(shelf, owned[0], add_up(shelf, owned, places, lower))

"""Holds of roots, and making twigs a root's own: where somebody else holds one, a copy is put in its stead."""

from twigmap.ways import is_leaf


# A root without a twig is nobody's to hold.
def check_root(shelf, root):
    if root is not None:
        shelf.check_held([root])


# Told is the root again, now with one hold more, the asker's.
def held(shelf, root):
    if root is not None:
        shelf.hold(root)
    return root


def release(shelf, root):
    if root is not None:
        shelf.let_go(root)


# The numbers that now stand on the way, from the root down. The copies are put from above on, as a
# branch can be put in another one's stead only in a stem that is one's own.
def own_way(shelf, steps):
    owned = []
    stem = None
    for step in steps:
        stem = own(shelf, stem, step[0])
        owned.append(stem)
    return owned


# The number is that of a branch of the stem or, where this is None, of a root that the asker holds.
def own(shelf, stem, number):
    if shelf.alone(number):
        return number
    stead = put_copy(shelf, number)
    if stem is not None:
        branches = shelf.look(stem)[1]
        shelf.change_stem(stem, [stead if branch == number else branch for branch in branches])
    shelf.let_go(number)
    return stead


def put_copy(shelf, number):
    found = shelf.look(number)
    if is_leaf(found):
        return shelf.put_leaf(found[1])
    for branch in found[1]:
        shelf.hold(branch)
    return shelf.put_stem(found[1])

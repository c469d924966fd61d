"""Tables cut at keys, in leaves that stay where all their rows go to one side."""

from twigmap.bonds import bond
from twigmap.keys import ahead, checked
from twigmap.owns import held, release
from twigmap.places import many_between
from twigmap.tables import Table
from twigmap.twigs import GREATEST, LEAST
from twigmap.ways import is_leaf


def cut(table, key):
    shelf = table.shelf
    parts = parted(shelf, table.root, checked(key))
    return (Table(shelf, parts[0]), Table(shelf, parts[1]))


def span(table, low, high):
    shelf = table.shelf
    if many_between(shelf, table.root, low, high) == 0:
        return Table(shelf)
    tail = tail_of(shelf, table.root, low)
    middle = head_of(shelf, tail, high)
    release(shelf, tail)
    return Table(shelf, middle)


# Where no row goes the root has to stay, so it is not parted and bonded again.
def gapped(table, low, high):
    shelf = table.shelf
    if many_between(shelf, table.root, low, high) == 0:
        return table.fork()
    head = head_of(shelf, table.root, low)
    return Table(shelf, bond(shelf, head, tail_of(shelf, table.root, high)))


# The roots told here and further on are held by the asker.
def head_of(shelf, root, key):
    parts = parted(shelf, root, key)
    release(shelf, parts[1])
    return parts[0]


def tail_of(shelf, root, key):
    parts = parted(shelf, root, key)
    release(shelf, parts[0])
    return parts[1]


# The root of the rows ahead of the key, and that of those from it on. What lies on one side as a whole is
# not opened.
def parted(shelf, root, key):
    if root is None or not ahead(shelf.label(root)[LEAST], key):
        return (None, held(shelf, root))
    if ahead(shelf.label(root)[GREATEST], key):
        return (held(shelf, root), None)
    found = shelf.look(root)
    if is_leaf(found):
        return parted_leaf(shelf, found[1], key)
    head = None
    tail = None
    for branch in found[1]:
        parts = parted(shelf, branch, key)
        head = bond(shelf, head, parts[0])
        tail = bond(shelf, tail, parts[1])
    return (head, tail)


# Here there are rows on both sides.
def parted_leaf(shelf, rows, key):
    head = [row for row in rows if ahead(row[0], key)]
    return (shelf.put_leaf(head), shelf.put_leaf(rows[len(head):]))

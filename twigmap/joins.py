"""Three tables joined row by row."""

from twigmap.differs import unlike
from twigmap.patches import give_side

# Where the side of each table stands within a clash.
PLACE_OF = {"base": 1, "one": 2, "other": 3}


# The new table is a fork of the one, to which is done what only the other has changed: so where this is
# nothing its root is that of the one.
def joined(base, one, other, keep):
    shelf = base.shelf
    if base.root == one.root:
        return (other.fork(), [])
    table = one.fork()
    ones = dict([(row[0], row[2]) for row in unlike(shelf, base.root, one.root)])
    clashes = []
    for row in unlike(shelf, base.root, other.root):
        if row[0] not in ones:
            give_side(table, row[0], row[2])
        elif ones[row[0]] != row[2]:
            clashes.append((row[0], row[1], ones[row[0]], row[2]))
    for clash in clashes:
        give_side(table, clash[0], clash[PLACE_OF[keep]])
    return (table, clashes)

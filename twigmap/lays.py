"""Tables laid over one another, and what of a table another one has or lacks."""

from twigmap.differs import unlike


# Here and further on rows are put into, or taken from, a fork of the one: so where no row changes its root stays.
def laid(one, other):
    if one.root is None:
        return other.fork()
    table = one.fork()
    for row in unlike(one.shelf, one.root, other.root):
        if row[2] != []:
            table.put(row[0], row[2][0])
    return table


def met(one, other):
    table = one.fork()
    for row in unlike(one.shelf, one.root, other.root):
        if row[2] == []:
            table.take(row[0])
    return table


# What the two share goes too, so here the keys of the other are asked, not what is unlike.
def less(one, other):
    table = one.fork()
    for row in other.rows():
        table.take(row[0])
    return table

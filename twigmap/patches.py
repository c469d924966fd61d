"""Patches: what is unlike in two tables, turned, put one behind the other, and done to a table."""

from twigmap.errors import Stale
from twigmap.keys import is_key, order
from twigmap.twigs import rise


# Keys that are none can't be asked for their order, so all of them are checked ahead of it.
def patch_ok(rows):
    keys = [row[0] for row in rows]
    return all([is_key(key) for key in keys]) and rise(keys) and all([is_change(row) for row in rows])


def is_change(row):
    return is_side(row[1]) and is_side(row[2]) and row[1] != row[2]


def is_side(things):
    return len(things) <= 1 and all([is_key(thing) for thing in things])


def turned(patch):
    return [(row[0], list(row[2]), list(row[1])) for row in patch]


# Of a key that stands twice in a list a dict keeps the last side: so the first's old and the second's new one.
def behind(first, second):
    check_follows(first, second)
    olds = dict([(row[0], row[1]) for row in second + first])
    news = dict([(row[0], row[2]) for row in first + second])
    rows = [(key, list(olds[key]), list(news[key])) for key in order(list(olds))]
    return [row for row in rows if row[1] != row[2]]


def check_follows(first, second):
    olds = dict([(row[0], row[1]) for row in second])
    for row in first:
        if olds.get(row[0], row[2]) != row[2]:
            raise Stale(row[0])


# All rows are checked ahead of the first deed, as what is refused changes nothing.
def done(table, patch):
    for row in patch:
        if table.side(row[0]) != row[1]:
            raise Stale(row[0])
    for row in patch:
        give_side(table, row[0], row[2])
    return len(patch)


def give_side(table, key, side):
    if side == []:
        table.take(key)
    else:
        table.put(key, side[0])

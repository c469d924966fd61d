"""The book: boughs that can be changed, and versions that stay until they are let go."""

from twigmap.differs import unlike
from twigmap.elders import common
from twigmap.errors import NoName, NoVersion, Taken
from twigmap.joins import joined
from twigmap.keys import checked
from twigmap.tables import Table

MOST_LETTERS = 12


# The last version is None where there is none yet.
class Bough:
    def __init__(self, table, last):
        self.table = table
        self.last = last


# Kept are the tables of the versions that were not let go; the elders are those of all that were ever marked.
class Book:
    def __init__(self, shelf):
        self.shelf = shelf
        self.boughs = {}
        self.kept = {}
        self.elders = {}

    def begin(self, name):
        self.check_free(name)
        self.boughs[name] = Bough(Table(self.shelf), None)

    def branch(self, name, number):
        self.check_free(name)
        self.boughs[name] = Bough(self.version_of(number).fork(), number)

    def back(self, name, number):
        bough = self.bough_of(name)
        give_table(bough, self.version_of(number).fork())
        bough.last = number

    # Cleared, as else the table would hold its root though nobody has it any more.
    def close(self, name):
        self.bough_of(name).table.clear()
        self.boughs.pop(name)

    def put(self, name, key, value):
        return self.bough_of(name).table.put(key, value)

    def take(self, name, key):
        return self.bough_of(name).table.take(key)

    def side(self, name, key):
        return self.bough_of(name).table.side(key)

    def rows(self, name):
        return self.bough_of(name).table.rows()

    def names(self):
        return list(self.boughs)

    def mark(self, name):
        bough = self.bough_of(name)
        return self.add_version(bough, lasts_of(bough))

    def meet(self, name, number, keep):
        bough = self.bough_of(name)
        version = self.version_of(number)
        told = joined(self.base_for(bough, number), bough.table, version, keep)
        give_table(bough, told[0])
        elders = [last for last in lasts_of(bough) if last != number]
        return (self.add_version(bough, elders + [number]), told[1])

    def let_go(self, number):
        self.version_of(number).clear()
        self.kept.pop(number)

    def versions(self):
        return sorted(self.kept)

    def elders_of(self, number):
        if number not in self.elders:
            raise NoVersion(number)
        return list(self.elders[number])

    def rows_at(self, number):
        return self.version_of(number).rows()

    def side_at(self, number, key):
        return self.version_of(number).side(key)

    def between(self, one, other):
        ones = self.version_of(one)
        others = self.version_of(other)
        return unlike(self.shelf, ones.root, others.root)

    def base_of(self, one, other):
        self.version_of(one)
        self.version_of(other)
        return self.greatest_common(one, other)

    # The key is checked by itself, as there may be no version that could be asked for it.
    def story(self, key):
        checked(key)
        sides = [(number, self.side_at(number, key)) for number in self.versions()]
        return [told for told in sides if told[1] != self.side_ahead(told[0], key)]

    def check_free(self, name):
        check_name(name)
        if name in self.boughs:
            raise Taken(name)

    def bough_of(self, name):
        check_name(name)
        if name not in self.boughs:
            raise NoName(name)
        return self.boughs[name]

    def version_of(self, number):
        if number not in self.kept:
            raise NoVersion(number)
        return self.kept[number]

    def add_version(self, bough, elders):
        number = len(self.elders)
        self.elders[number] = elders
        self.kept[number] = bough.table.fork()
        bough.last = number
        return number

    # Both have to be known, but needn't be kept: a bough's last version may have been let go.
    def greatest_common(self, one, other):
        both = [number for number in common(self.elders, one, other) if number in self.kept]
        return max(both, default=None)

    def base_for(self, bough, number):
        if bough.last is None:
            return Table(self.shelf)
        base = self.greatest_common(bough.last, number)
        if base is None:
            return Table(self.shelf)
        return self.kept[base]

    # The side at the version ahead of this one: its first elder that is kept, by first elders all along.
    def side_ahead(self, number, key):
        elders = self.elders[number]
        while elders != [] and elders[0] not in self.kept:
            elders = self.elders[elders[0]]
        if elders == []:
            return []
        return self.side_at(elders[0], key)


def is_name(thing):
    if not isinstance(thing, str) or not 1 <= len(thing) <= MOST_LETTERS:
        return False
    return all(["a" <= sign <= "z" for sign in thing])


# Ahead of all that asks a dict for the name, as it may be a thing of any kind.
def check_name(name):
    if not is_name(name):
        raise NoName(name)


def lasts_of(bough):
    if bough.last is None:
        return []
    return [bough.last]


# The old table is cleared, so that it holds its root no more.
def give_table(bough, table):
    bough.table.clear()
    bough.table = table

"""Twigs: leaves and stems as the shelf keeps them, and their labels."""

from twigmap.errors import NoLeaf, NoStem
from twigmap.keys import ahead, checked

MOST_ROWS = 4
FEWEST_BRANCHES = 2
MOST_BRANCHES = 4

# The places within a label.
HEIGHT = 0
LEAST = 1
GREATEST = 2
MANY = 3


# The things are a leaf's rows or the numbers of a stem's branches, the tag is its label; above are the
# numbers of the stems that have it as a branch, and holds tells how many holds from without it has.
# Whoever puts a twig holds it, so it begins with one.
class Twig:
    def __init__(self, things, tag):
        self.things = things
        self.tag = tag
        self.above = []
        self.holds = 1


# All keys and values are checked ahead of all else, those of rows too many among them.
def checked_rows(rows):
    own = own_rows(rows)
    if not 1 <= len(own) <= MOST_ROWS or not rise([row[0] for row in own]):
        raise NoLeaf()
    return own


def own_rows(rows):
    return [(checked(row[0]), checked(row[1])) for row in rows]


def rise(keys):
    return all([ahead(keys[at - 1], keys[at]) for at in range(1, len(keys))])


def label_of_rows(rows):
    return (0, rows[0][0], rows[-1][0], len(rows))


def label_over(labels):
    if not FEWEST_BRANCHES <= len(labels) <= MOST_BRANCHES:
        raise NoStem()
    for at in range(1, len(labels)):
        if not stand_side_by_side(labels[at - 1], labels[at]):
            raise NoStem()
    many = sum([label[MANY] for label in labels])
    return (labels[0][HEIGHT] + 1, labels[0][LEAST], labels[-1][GREATEST], many)


def stand_side_by_side(label, following):
    return label[HEIGHT] == following[HEIGHT] and ahead(label[GREATEST], following[LEAST])

"""Taking a row out below a root."""

from twigmap.keys import ahead
from twigmap.owns import check_root, own, own_way
from twigmap.twigs import FEWEST_BRANCHES, LEAST, MOST_BRANCHES
from twigmap.ways import steps_to


def taken_from(shelf, root, key):
    check_root(shelf, root)
    steps = steps_to(shelf, root, key)
    if steps == []:
        return None
    rows = steps[-1][2][1]
    left = [row for row in rows if row[0] != key]
    if left == rows:
        return root
    if left == []:
        return without_leaf(shelf, steps)
    owned = own_way(shelf, steps)
    shelf.change_leaf(owned[-1], left)
    return owned[0]


# The twigs of the way from the first that goes down to the leaf are taken out; those above it stay.
def without_leaf(shelf, steps):
    first = first_that_goes(shelf, steps)
    if first == 0:
        return hand_down(shelf, None, None, steps)
    owned = own_way(shelf, steps[:first])
    branches = branches_of(steps[first - 1])
    heir = neighbour(steps[first - 1])
    if len(branches) > FEWEST_BRANCHES:
        shelf.change_stem(owned[-1], [branch for branch in branches if branch != steps[first][0]])
    else:
        lender = own(shelf, owned[-2], neighbour(steps[first - 2]))
        exchange(shelf, owned[-1], heir, lender)
    hand_down(shelf, owned[-1], heir, steps[first:])
    return owned[0]


def first_that_goes(shelf, steps):
    place = len(steps) - 1
    while place > 0 and not can_lose_one(shelf, steps, place - 1):
        place -= 1
    return place


# A stem that would have one branch left gets another one only where its neighbour can't have this one too.
def can_lose_one(shelf, steps, place):
    if len(branches_of(steps[place])) > FEWEST_BRANCHES:
        return True
    return place > 0 and is_full(shelf, neighbour(steps[place - 1]))


def is_full(shelf, stem):
    return len(shelf.look(stem)[1]) == MOST_BRANCHES


def branches_of(step):
    return step[2][1]


# The twig beside the next one of the way, under the stem of this step.
def neighbour(step):
    return branches_of(step)[step[1] - 1 if step[1] > 0 else 1]


# The stem has but this one of its branches then, and the nearest one of the lender.
def exchange(shelf, stem, left, lender):
    branches = shelf.look(lender)[1]
    lent = branches[-1] if stands_ahead(shelf, lender, stem) else branches[0]
    shelf.change_stem(lender, [branch for branch in branches if branch != lent])
    shelf.change_stem(stem, [lent, left] if stands_ahead(shelf, lent, left) else [left, lent])


# The twigs of these steps go, from above on: so what an heir is given never stands twice under one stem.
# The asker has a hold of the first one; the heir, of its height, stands under the stem or, where this is
# None, is a root; where there is no heir, the first one is the root. Told is what stands in the heir's stead.
def hand_down(shelf, stem, heir, steps):
    if len(steps) == 1:
        shelf.let_go(steps[0][0])
        return heir
    left = neighbour(steps[0])
    for branch in branches_of(steps[0]):
        shelf.hold(branch)
    shelf.let_go(steps[0][0])
    if heir is None:
        return hand_down(shelf, None, left, steps[1:])
    owner = own(shelf, stem, heir)
    adopt(shelf, owner, left)
    hand_down(shelf, owner, left, steps[1:])
    return owner


def adopt(shelf, stem, number):
    branches = shelf.look(stem)[1]
    at = 0 if stands_ahead(shelf, number, stem) else len(branches)
    branches.insert(at, number)
    shelf.change_stem(stem, branches)


def stands_ahead(shelf, one, other):
    return ahead(shelf.label(one)[LEAST], shelf.label(other)[LEAST])

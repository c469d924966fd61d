"""Tables filled at once with rising rows."""

from twigmap.errors import NotRising
from twigmap.keys import ahead
from twigmap.tables import Table
from twigmap.twigs import MOST_BRANCHES, MOST_ROWS, own_rows


def filled(shelf, rows):
    own = own_rows(rows)
    check_rising([row[0] for row in own])
    if own == []:
        return Table(shelf)
    numbers = [shelf.put_leaf(part) for part in spread(own, MOST_ROWS)]
    while len(numbers) > 1:
        numbers = [shelf.put_stem(part) for part in spread(numbers, MOST_BRANCHES)]
    return Table(shelf, numbers[0])


def check_rising(keys):
    for at in range(1, len(keys)):
        if not ahead(keys[at - 1], keys[at]):
            raise NotRising(at)


# As few parts as may be, each about as great as the others: so of two things or more none stands by itself.
def spread(things, most):
    many = len(things)
    parts = (many + most - 1) // most
    return [things[many * at // parts:many * (at + 1) // parts] for at in range(parts)]

"""Keys: what is one, and the order in which they stand."""

from twigmap.errors import NoKey

MOST_FIGURES = 60
MOST_SIGNS = 40
MOST_THINGS = 4
MOST_DEEP = 3


def is_key(thing):
    return fits(thing, MOST_DEEP)


def checked(thing):
    if not is_key(thing):
        raise NoKey()
    return thing


# The room is how many tuples may still lie within one another: counted down on the way in, so that
# a thing of whatever depth is never followed further than a key can go.
def fits(thing, room):
    # A truth is an int too, so it has to be turned away first.
    if isinstance(thing, bool):
        return False
    if isinstance(thing, int):
        return has_few_figures(thing)
    if isinstance(thing, str):
        return len(thing) <= MOST_SIGNS and all([is_sign(sign) for sign in thing])
    if isinstance(thing, tuple):
        return room > 0 and len(thing) <= MOST_THINGS and all([fits(part, room - 1) for part in thing])
    return False


# By size, not by the text's length: Python writes no number of very many figures.
# The exponent is MOST_FIGURES, which can't stand there by its name.
def has_few_figures(number):
    return abs(number) < 10 ** 60


# The text without signs is no sign.
def is_sign(sign):
    return " " <= sign <= "~"


def ahead(one, other):
    return standing(one) < standing(other)


def order(keys):
    return sorted(keys, key=standing)


def place_in(keys, key):
    low = 0
    high = len(keys)
    while low < high:
        middle = (low + high) // 2
        if ahead(keys[middle], key):
            low = middle + 1
        else:
            high = middle
    return low


# With its kind's rank put ahead of each key at each depth, Python's own order of tuples is the keys'
# order, and two keys of unlike kinds are never compared themselves.
def standing(key):
    if isinstance(key, int):
        return (0, key)
    if isinstance(key, str):
        return (1, key)
    return (2, tuple([standing(part) for part in key]))


def deep(key):
    if not isinstance(key, tuple):
        return 0
    return 1 + max([deep(part) for part in key], default=0)

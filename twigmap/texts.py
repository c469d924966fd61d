"""Twigs written as rows of text, and a shelf read from such rows."""

from twigmap.errors import NoLeaf, NoRow, NoStem, NoText
from twigmap.owns import held, release
from twigmap.shelf import Shelf
from twigmap.shows import read_many, show
from twigmap.tables import Table
from twigmap.ways import is_leaf


def written(shelf, roots):
    found = {}
    for root in roots:
        find_all(shelf, root, found)
    places = places_in(list(found))
    return [twig_row(found[number], places) for number in found] + [root_row(root, places) for root in roots]


# Into the dict goes what a look tells of each twig that the root reaches, branches ahead of their stem. What is
# there already was reached by another root, with all below it.
def find_all(shelf, root, found):
    if root is None or root in found:
        return
    twig = shelf.look(root)
    if not is_leaf(twig):
        for branch in twig[1]:
            find_all(shelf, branch, found)
    found[root] = twig


def places_in(numbers):
    places = {}
    for number in numbers:
        places[number] = str(len(places))
    return places


def twig_row(twig, places):
    if is_leaf(twig):
        return " ".join(["leaf"] + [show_row(row) for row in twig[1]])
    return " ".join(["stem"] + [places[branch] for branch in twig[1]])


def root_row(root, places):
    if root is None:
        return "root -"
    return "root " + places[root]


def show_row(row):
    return show(row[0]) + " " + show(row[1])


# The numbers of the twigs stand by the texts of their rows' numbers: so a number that is written otherwise, or
# that no twig has, is not among them, however long it is.
def read_shelf(rows):
    shelf = Shelf()
    numbers = {}
    tables = []
    for at in range(len(rows)):
        words = words_of(rows[at], at)
        if words[0] == "root":
            tables.append(Table(shelf, held(shelf, read_root(numbers, words[1], at))))
        elif tables == []:
            numbers[str(at)] = read_twig(shelf, numbers, words, at)
        else:
            raise NoRow(at)
    give_up(shelf, [numbers[text] for text in numbers], len(rows))
    return (shelf, tables)


# The first word of a row, and the text behind the blank that follows it.
def words_of(row, at):
    if not isinstance(row, str):
        raise NoRow(at)
    parts = row.partition(" ")
    return (parts[0], parts[2])


def read_root(numbers, text, at):
    if text == "-":
        return None
    return number_for(numbers, text, at)


def number_for(numbers, text, at):
    if text not in numbers:
        raise NoRow(at)
    return numbers[text]


def read_twig(shelf, numbers, words, at):
    if words[0] == "leaf":
        return read_leaf(shelf, words[1], at)
    if words[0] == "stem":
        return read_stem(shelf, [number_for(numbers, text, at) for text in words[1].split(" ")], at)
    raise NoRow(at)


def read_leaf(shelf, text, at):
    try:
        return shelf.put_leaf(pairs_of(read_many(text), at))
    except NoText:
        raise NoRow(at) from None
    except NoLeaf:
        raise NoRow(at) from None


def pairs_of(things, at):
    if len(things) % 2 != 0:
        raise NoRow(at)
    return [(things[place], things[place + 1]) for place in range(0, len(things), 2)]


# The stem takes over a hold of each branch, and there may be stems and roots to come that want one too.
def read_stem(shelf, branches, at):
    for branch in branches:
        shelf.hold(branch)
    try:
        return shelf.put_stem(branches)
    except NoStem:
        raise NoRow(at) from None


# The hold of each twig that came by putting it; where it is the only one, the twig is in no stem and no root.
def give_up(shelf, numbers, many):
    for number in numbers:
        if shelf.holders(number) == 1:
            raise NoRow(many)
    for number in numbers:
        release(shelf, number)

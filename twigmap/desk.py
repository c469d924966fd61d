"""The desk: a book that is asked by rows of text and answers by texts."""

from twigmap.book import Book, is_name
from twigmap.errors import NoRow, NoText
from twigmap.shelf import Shelf
from twigmap.shows import is_figure, read_many, show
from twigmap.texts import show_row

MOST_FIGURES = 9
KEEPS = ("base", "one", "other")


# Each deed is done to a book with the things that its row told, and tells the parts of the answer.
def do_begin(book, things):
    book.begin(things[0])
    return ["ok"]


def do_branch(book, things):
    book.branch(things[0], things[1])
    return ["ok"]


def do_back(book, things):
    book.back(things[0], things[1])
    return ["ok"]


def do_close(book, things):
    book.close(things[0])
    return ["ok"]


def do_drop(book, things):
    book.let_go(things[0])
    return ["ok"]


def do_put(book, things):
    return ["yes" if book.put(things[0], things[1], things[2]) else "no"]


def do_take(book, things):
    return [show_side(book.take(things[0], things[1]))]


def do_get(book, things):
    return [show_side(book.side(things[0], things[1]))]


def do_at(book, things):
    return [show_side(book.side_at(things[0], things[1]))]


def do_rows(book, things):
    return [show_row(row) for row in book.rows(things[0])]


def do_all(book, things):
    return [show_row(row) for row in book.rows_at(things[0])]


def do_mark(book, things):
    return [str(book.mark(things[0]))]


def do_meet(book, things):
    told = book.meet(things[0], things[1], things[2])
    return [str(told[0])] + [show_sides(clash) for clash in told[1]]


def do_between(book, things):
    return [show_sides(row) for row in book.between(things[0], things[1])]


def do_base(book, things):
    base = book.base_of(things[0], things[1])
    return [] if base is None else [str(base)]


def do_story(book, things):
    return [str(told[0]) + " " + show_side(told[1]) for told in book.story(things[0])]


def do_names(book, things):
    return book.names()


def do_versions(book, things):
    return [str(number) for number in book.versions()]


def do_twigs(book, things):
    return [str(book.shelf.many())]


# For each first word what is wanted behind it, keys always last, and what is done then.
DEEDS = {
    "begin": (("name",), do_begin),
    "branch": (("name", "number"), do_branch),
    "back": (("name", "number"), do_back),
    "close": (("name",), do_close),
    "drop": (("number",), do_drop),
    "put": (("name", "key", "key"), do_put),
    "take": (("name", "key"), do_take),
    "get": (("name", "key"), do_get),
    "at": (("number", "key"), do_at),
    "rows": (("name",), do_rows),
    "all": (("number",), do_all),
    "mark": (("name",), do_mark),
    "meet": (("name", "number", "keep"), do_meet),
    "between": (("number", "number"), do_between),
    "base": (("number", "number"), do_base),
    "story": (("key",), do_story),
    "names": ((), do_names),
    "versions": ((), do_versions),
    "twigs": ((), do_twigs),
}


class Desk:
    def __init__(self):
        self.book = Book(Shelf())

    def say(self, row):
        if not isinstance(row, str):
            raise NoRow(0)
        word = row.partition(" ")[0]
        if word not in DEEDS:
            raise NoRow(0)
        kinds = DEEDS[word][0]
        deed = DEEDS[word][1]
        parts = deed(self.book, things_in(row, kinds))
        return "; ".join(parts) if parts != [] else "nothing"


# Keys may have blanks in them, so they are not parted by these: their text is the last part as a whole.
def things_in(row, kinds):
    plain = [kind for kind in kinds if kind != "key"]
    many = len(kinds) - len(plain)
    if many == 0:
        return read_words(row.split(" "), plain)
    parts = row.split(" ", len(plain) + 1)
    return read_words(parts[:-1], plain) + read_keys(parts[-1], many)


# The first word is the deed's own.
def read_words(words, kinds):
    if len(words) != len(kinds) + 1:
        raise NoRow(0)
    return [read_word(words[at + 1], kinds[at]) for at in range(len(kinds))]


def read_word(word, kind):
    if kind == "name" and is_name(word):
        return word
    if kind == "number" and is_number(word):
        return int(word)
    if kind == "keep" and word in KEEPS:
        return word
    raise NoRow(0)


def is_number(word):
    if not 1 <= len(word) <= MOST_FIGURES or not all([is_figure(sign) for sign in word]):
        return False
    return word == "0" or word[0] != "0"


def read_keys(text, many):
    try:
        keys = read_many(text)
    except NoText:
        raise NoRow(0) from None
    if len(keys) != many:
        raise NoRow(0)
    return keys


def show_side(side):
    return "-" if side == [] else show(side[0])


# Of a key and the sides behind it.
def show_sides(told):
    return " ".join([show(told[0])] + [show_side(side) for side in told[1:]])

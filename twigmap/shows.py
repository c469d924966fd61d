"""The texts of keys: written by show, read by read and read_many."""

from twigmap.errors import NoText
from twigmap.keys import MOST_DEEP, MOST_FIGURES, MOST_SIGNS, MOST_THINGS, is_sign


def show(key):
    if isinstance(key, int):
        return str(key)
    if isinstance(key, str):
        return '"' + freed(key) + '"'
    return "(" + " ".join([show(part) for part in key]) + ")"


# The backslashes go first: else those that free a quote would be freed themselves.
def freed(text):
    return text.replace("\\", "\\\\").replace('"', '\\"')


def read(text):
    found = key_at(text, 0, MOST_DEEP)
    if found[1] < len(text):
        raise NoText(found[1])
    return found[0]


def read_many(text):
    if text == "":
        return []
    found = key_at(text, 0, MOST_DEEP)
    keys = [found[0]]
    while found[1] < len(text):
        if text[found[1]] != " ":
            raise NoText(found[1])
        found = key_at(text, found[1] + 1, MOST_DEEP)
        keys.append(found[0])
    return keys


# Each function from here on reads from a place on and tells a tuple: what it read, and the place
# behind it. Each goes on only by signs with which some key's text goes on, so the place at which it
# stops is the one to tell; behind the text's last sign that is the text's length.

# The room is how many tuples may still be opened within one another.
def key_at(text, at, room):
    sign = sign_at(text, at)
    if sign == '"':
        return text_at(text, at + 1)
    if sign == "(" and room > 0:
        return tuple_at(text, at + 1, room - 1)
    return number_at(text, at)


# A figure too many is left standing: whoever asked finds it where no figure can stand.
def number_at(text, at):
    if sign_at(text, at) == "0":
        return (0, at + 1)
    first = at
    if sign_at(text, at) == "-":
        first = at + 1
    if not is_figure(sign_at(text, first)) or text[first] == "0":
        raise NoText(first)
    end = first + 1
    while end < first + MOST_FIGURES and is_figure(sign_at(text, end)):
        end += 1
    return (int(text[at:end]), end)


def text_at(text, at):
    signs = []
    place = at
    while sign_at(text, place) != '"':
        if len(signs) == MOST_SIGNS:
            raise NoText(place)
        place = meant_at(text, place)
        signs.append(text[place])
        place += 1
    return ("".join(signs), place + 1)


# The place of the sign that is meant: the one behind it, where a backslash frees it.
def meant_at(text, at):
    sign = sign_at(text, at)
    if sign == "\\":
        if sign_at(text, at + 1) not in ('"', "\\"):
            raise NoText(at + 1)
        return at + 1
    if not is_sign(sign):
        raise NoText(at)
    return at


def tuple_at(text, at, room):
    if sign_at(text, at) == ")":
        return ((), at + 1)
    found = key_at(text, at, room)
    things = [found[0]]
    while sign_at(text, found[1]) != ")":
        if sign_at(text, found[1]) != " " or len(things) == MOST_THINGS:
            raise NoText(found[1])
        found = key_at(text, found[1] + 1, room)
        things.append(found[0])
    return (tuple(things), found[1] + 1)


# The text without signs where there is none, so that a text's end is like a sign that can't stand there.
def sign_at(text, at):
    return text[at:at + 1]


def is_figure(sign):
    return "0" <= sign <= "9"

"""The interface at the document's end: every name is there, with its arguments."""

import importlib
import inspect
import unittest

from twigmap.book import Book
from twigmap.shelf import Shelf
from twigmap.tables import Table

FUNCTIONS = {
    "keys": "is_key(thing) checked(thing) ahead(one,other) order(keys) place_in(keys,key) deep(key)",
    "shows": "show(key) read(text) read_many(text)",
    "twigs": "checked_rows(rows) label_of_rows(rows) label_over(labels)",
    "ways": "way_to(shelf,root,key) way_holds(shelf,root,key,way) value_of(shelf,root,key) rows_of(shelf,root) "
            "twigs_of(shelf,root) leaves_of(shelf,root) height_of(shelf,root)",
    "places": "nth(shelf,root,at) place_of(shelf,root,key) many_between(shelf,root,low,high) from_key(shelf,root,key) "
              "before_key(shelf,root,key)",
    "puts": "put_in(shelf,root,key,value)",
    "takes": "taken_from(shelf,root,key)",
    "fills": "filled(shelf,rows)",
    "bonds": "bonded(one,other)",
    "cuts": "cut(table,key) span(table,low,high) gapped(table,low,high)",
    "differs": "unlike(shelf,one,other) alike(shelf,one,other) shared(shelf,one,other)",
    "patches": "patch_ok(rows) turned(patch) behind(first,second) done(table,patch)",
    "joins": "joined(base,one,other,keep)",
    "lays": "laid(one,other) met(one,other) less(one,other)",
    "elders": "reach(elders,number) common(elders,one,other) bases(elders,one,other)",
    "texts": "written(shelf,roots) read_shelf(rows)",
}
CLASSES = {
    "shelf.Shelf": "Shelf() put_leaf(rows) put_stem(numbers) hold(number) let_go(number) holders(number) outside(number) "
                   "alone(number) change_leaf(number,rows) change_stem(number,numbers) look(number) label(number) "
                   "looked() numbers() forget() many()",
    "tables.Table": "Table(shelf,root=None) put(key,value) take(key) side(key) rows() twigs() count() fork() clear()",
    "book.Book": "Book(shelf) begin(name) branch(name,number) back(name,number) close(name) let_go(number) "
                 "put(name,key,value) take(name,key) side(name,key) side_at(number,key) rows(name) rows_at(number) "
                 "names() versions() elders_of(number) between(one,other) story(key) mark(name) meet(name,number,keep) "
                 "base_of(one,other)",
    "desk.Desk": "Desk() say(row)",
}


def told(name, thing):
    """A name with its arguments, as the document writes it."""
    return name + str(inspect.signature(thing)).replace(" ", "")


class InterfaceTest(unittest.TestCase):
    def test_functions(self):
        for file, rows in FUNCTIONS.items():
            module = importlib.import_module("twigmap." + file)
            for row in rows.split(" "):
                name = row.partition("(")[0]
                self.assertEqual(told(name, getattr(module, name)), row)

    def test_classes(self):
        for place, rows in CLASSES.items():
            file, name = place.split(".")
            made = getattr(importlib.import_module("twigmap." + file), name)
            first, *others = rows.split(" ")
            self.assertEqual(told(name, made), first)
            for row in others:
                method = row.partition("(")[0]
                found = told(method, getattr(made, method))
                self.assertEqual(found.replace("(self,", "(").replace("(self)", "()"), row)

    def test_values(self):
        shelf = Shelf()
        table = Table(shelf, shelf.put_leaf([(1, 1)]))
        self.assertIs(table.shelf, shelf)
        self.assertEqual((table.root, Table(shelf).root), (0, None))
        self.assertIs(Book(shelf).shelf, shelf)


if __name__ == "__main__":
    unittest.main()

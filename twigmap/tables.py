"""Tables: rows on a shelf, changed in place where nobody else holds them."""

from twigmap.keys import checked
from twigmap.owns import check_root, held, release
from twigmap.places import rows_under
from twigmap.puts import put_in
from twigmap.takes import taken_from
from twigmap.ways import rows_of, twigs_of, value_of


class Table:
    def __init__(self, shelf, root=None):
        check_root(shelf, root)
        self.shelf = shelf
        self.root = root

    def put(self, key, value):
        changed = self.side(key) != [checked(value)]
        self.root = put_in(self.shelf, self.root, key, value)
        return changed

    def take(self, key):
        taken = self.side(key)
        self.root = taken_from(self.shelf, self.root, key)
        return taken

    def side(self, key):
        return value_of(self.shelf, self.root, key)

    def rows(self):
        return rows_of(self.shelf, self.root)

    def count(self):
        return rows_under(self.shelf, self.root)

    def twigs(self):
        return twigs_of(self.shelf, self.root)

    def fork(self):
        return Table(self.shelf, held(self.shelf, self.root))

    def clear(self):
        release(self.shelf, self.root)
        self.root = None

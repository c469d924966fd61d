"""[85]: what a book refuses, in which order, and that nothing changes by it."""

import unittest

from books import KEEPS, NAMES, NO_NAMES, BookCase, Pair
from trees import MISSING, NO_KEYS
from twigmap.book import Book
from twigmap.errors import NoKey, NoName, NoVersion, Taken
from twigmap.shelf import Shelf


class RefusalCase(BookCase):
    def grown(self):
        """Boughs a, b and, without rows, c; versions 0 to 3, of which 1 was let go; d was closed."""
        pair = Pair()
        self.all_at_both(
            pair, ("begin", "a"), ("put", "a", 1, "x"), ("put", "a", 2, "y"), ("mark", "a"), ("put", "a", 1, "z"),
            ("mark", "a"), ("branch", "b", 0), ("put", "b", 3, "b"), ("mark", "b"), ("begin", "c"), ("mark", "c"),
            ("begin", "d"), ("put", "d", 1, 1), ("close", "d"), ("let_go", 1),
        )
        return pair

    def refuse_all(self, wanted, *rows):
        pair = self.grown()
        for deed, *things in rows:
            self.refuse(pair, wanted, deed, *things)
        self.assert_book(pair)


def name_deeds(name, number, key):
    """All deeds that want a bough of a name."""
    return [
        ("back", name, number), ("close", name), ("put", name, key, 1), ("put", name, 1, key), ("take", name, key),
        ("side", name, key), ("rows", name), ("mark", name), *[("meet", name, number, keep) for keep in KEEPS],
    ]


def new_deeds(name, number):
    """All deeds that want a new name."""
    return [("begin", name), ("branch", name, number)]


class NameTest(RefusalCase):
    def test_what_is_no_name(self):
        for name in NO_NAMES:
            for number, key in [(0, 1), (9, [])]:
                self.refuse_all(NoName(name), *name_deeds(name, number, key), *new_deeds(name, number))

    def test_what_is_no_name_in_an_empty_book(self):
        for name in NO_NAMES:
            book = Book(Shelf())
            for deed, *things in name_deeds(name, 0, 1) + new_deeds(name, 0):
                self.assert_refused(NoName(name), getattr(book, deed), *things)

    def test_a_name_that_nobody_has(self):
        for name in ["d", "e", "aa", "ab", *NAMES[1:]]:
            for number in (0, 1, 9):
                for key in (1, [], "a" * 41):
                    self.refuse_all(NoName(name), *name_deeds(name, number, key))

    def test_a_name_that_was_closed(self):
        pair = self.grown()
        self.at_both(pair, "close", "a")
        for deed, *things in name_deeds("a", 0, 1):
            self.refuse(pair, NoName("a"), deed, *things)
        self.assertIsNone(self.at_both(pair, "begin", "a"))

    def test_taken(self):
        for name in "abc":
            for number in (0, 1, 9, -1):
                self.refuse_all(Taken(name), *new_deeds(name, number))

    def test_a_refused_branch_takes_no_name(self):
        pair = self.grown()
        self.refuse(pair, NoVersion(7), "branch", "e", 7)
        self.refuse(pair, NoName("e"), "rows", "e")
        self.assertEqual(self.at_both(pair, "names"), ["a", "b", "c"])
        self.assertIsNone(self.at_both(pair, "branch", "e", 0))


class VersionTest(RefusalCase):
    def test_numbers_that_were_never_marked(self):
        for number in [4, *MISSING]:
            self.refuse_all(
                NoVersion(number), ("elders_of", number), ("let_go", number), ("rows_at", number),
                ("side_at", number, 1), ("side_at", number, []), ("branch", "e", number), ("back", "a", number),
                ("between", number, 0), ("between", 0, number), ("base_of", number, 0), ("base_of", 0, number),
                ("between", number, number), *[("meet", name, number, keep) for name in "abc" for keep in KEEPS],
            )

    def test_numbers_that_were_let_go(self):
        self.refuse_all(
            NoVersion(1), ("let_go", 1), ("rows_at", 1), ("side_at", 1, 1), ("side_at", 1, None), ("branch", "e", 1),
            ("back", "a", 1), ("back", "b", 1), ("between", 1, 0), ("between", 0, 1), ("between", 1, 1),
            ("base_of", 1, 0),
            ("base_of", 2, 1), ("base_of", 1, 1), *[("meet", name, 1, keep) for name in "abc" for keep in KEEPS],
        )
        self.assertEqual(self.at_both(self.grown(), "elders_of", 1), [0])

    def test_the_one_ahead_of_the_other(self):
        self.refuse_all(NoVersion(7), ("between", 7, 1), ("base_of", 7, 1), ("between", 7, 8), ("base_of", 7, 8))
        self.refuse_all(NoVersion(1), ("between", 1, 7), ("base_of", 1, 7), ("between", 1, -1), ("base_of", 1, 4))

    def test_where_all_were_let_go(self):
        pair = self.grown()
        for number in (0, 2, 3):
            self.at_both(pair, "let_go", number)
            self.refuse(pair, NoVersion(number), "let_go", number)
        self.assertEqual(self.at_both(pair, "versions"), [])
        self.assertEqual([self.at_both(pair, "elders_of", number) for number in range(4)], [[], [0], [0], []])
        self.refuse(pair, NoVersion(0), "branch", "e", 0)

    def test_an_empty_book(self):
        book = Book(Shelf())
        for deed, *things in [("elders_of", 0), ("rows_at", 0), ("let_go", 0), ("between", 0, 0), ("base_of", 0, 1)]:
            self.assert_refused(NoVersion(0), getattr(book, deed), *things)
        self.assert_refused(NoVersion(0), book.branch, "a", 0)
        self.assertEqual(book.names(), [])


class KeyTest(RefusalCase):
    def test_what_is_no_key(self):
        for key in NO_KEYS:
            self.refuse_all(
                NoKey(), ("put", "a", key, 1), ("put", "a", 1, key), ("put", "a", key, key), ("put", "c", key, 1),
                ("put", "c", 1, key), ("take", "a", key), ("take", "c", key), ("side", "a", key), ("side", "c", key),
                ("side_at", 0, key), ("side_at", 3, key), ("story", key),
            )

    def test_a_story_of_what_is_no_key_in_an_empty_book(self):
        for key in NO_KEYS:
            self.assert_refused(NoKey(), Book(Shelf()).story, key)

    def test_last_of_all(self):
        for key in NO_KEYS:
            self.refuse_all(NoVersion(1), ("side_at", 1, key))
            self.refuse_all(NoName("e"), ("put", "e", key, 1), ("put", "e", 1, key), ("take", "e", key),
                            ("side", "e", key))
            self.refuse_all(NoName("A"), ("put", "A", key, key), ("take", "A", key), ("side", "A", key))


if __name__ == "__main__":
    unittest.main()

"""[81], [82], [84]: boughs and versions of a book, one deed after the other."""

import unittest

from audits import MANY, NotingShelf, Picture
from books import NAMES, BookCase, Pair
from trees import ODD, RISING
from twigmap.book import Book
from twigmap.fills import filled
from twigmap.shelf import Shelf
from twigmap.tables import Table


class BoughTest(BookCase):
    """[81], [82]"""

    def test_a_new_book(self):
        shelf = Shelf()
        book = Book(shelf)
        self.assertIs(book.shelf, shelf)
        self.assertEqual((book.names(), book.versions(), book.story(1), shelf.many()), ([], [], [], 0))

    def test_names(self):
        pair = Pair()
        for at, name in enumerate(NAMES):
            self.assertIsNone(self.at_both(pair, "begin", name))
            self.assertEqual(pair.book.names(), NAMES[:at + 1])
            self.assertEqual(pair.book.rows(name), [])

    def test_every_letter(self):
        book = Book(Shelf())
        for letter in "abcdefghijklmnopqrstuvwxyz":
            book.begin(letter)
            book.begin(letter * 12)
        self.assertEqual(len(book.names()), 52)

    def test_put_take_side_and_rows(self):
        pair = Pair()
        self.at_both(pair, "begin", "a")
        self.assertIs(self.at_both(pair, "put", "a", 1, "x"), True)
        self.assertIs(self.at_both(pair, "put", "a", 1, "x"), False)
        self.assertIs(self.at_both(pair, "put", "a", 1, "y"), True)
        self.assertIs(self.at_both(pair, "put", "a", (), 1), True)
        self.assertEqual(self.at_both(pair, "side", "a", 1), ["y"])
        self.assertEqual(self.at_both(pair, "side", "a", "a001"), [])
        self.assertEqual(self.at_both(pair, "rows", "a"), [(1, "y"), ((), 1)])
        self.assertEqual(self.at_both(pair, "take", "a", 1), ["y"])
        self.assertEqual(self.at_both(pair, "take", "a", 1), [])
        self.assertEqual(self.at_both(pair, "rows", "a"), [((), 1)])
        self.assertEqual(self.at_both(pair, "take", "a", ()), [1])
        self.assertEqual(pair.shelf.many(), 0)

    def test_boughs_go_by_themselves(self):
        pair = Pair()
        self.all_at_both(pair, ("begin", "a"), ("begin", "b"), ("put", "a", 1, "x"), ("put", "b", 1, "y"),
                         ("put", "b", 2, "z"))
        self.at_both(pair, "take", "a", 1)
        self.assertEqual((pair.book.rows("a"), pair.book.rows("b")), ([], [(1, "y"), (2, "z")]))

    def test_names_go_by_when_they_were_begun(self):
        pair = Pair()
        self.all_at_both(pair, ("begin", "c"), ("begin", "a"), ("put", "c", 1, 2), ("mark", "c"), ("branch", "b", 0))
        self.assertEqual(self.at_both(pair, "names"), ["c", "a", "b"])
        self.all_at_both(pair, ("back", "c", 0), ("put", "a", 1, 1), ("mark", "a"), ("meet", "c", 1, "one"))
        self.assertEqual(self.at_both(pair, "names"), ["c", "a", "b"])
        self.all_at_both(pair, ("close", "c"), ("begin", "d"), ("begin", "c"))
        self.assertEqual(self.at_both(pair, "names"), ["a", "b", "d", "c"])
        self.all_at_both(pair, ("close", "a"), ("branch", "a", 1), ("close", "b"), ("close", "c"))
        self.assertEqual(self.at_both(pair, "names"), ["d", "a"])

    def test_a_name_that_was_closed_begins_anew(self):
        pair = Pair()
        self.all_at_both(pair, ("begin", "a"), ("put", "a", 1, "x"), ("mark", "a"), ("put", "a", 2, "y"))
        self.assertIsNone(self.at_both(pair, "close", "a"))
        self.at_both(pair, "begin", "a")
        self.assertEqual(pair.book.rows("a"), [])
        self.assertEqual(self.at_both(pair, "mark", "a"), 1)
        self.assertEqual(pair.book.elders_of(1), [])
        self.all_at_both(pair, ("close", "a"), ("branch", "a", 0), ("mark", "a"))
        self.assertEqual((pair.book.elders_of(2), pair.book.rows_at(2)), ([0], [(1, "x")]))

    def test_a_great_bough(self):
        book = Book(Shelf())
        book.begin("great")
        for key in MANY:
            self.assertIs(book.put("great", key, ("of", key)), True)
        book.mark("great")
        for key in MANY[::2]:
            self.assertEqual(book.take("great", key), [("of", key)])
        self.assertEqual(book.rows_at(0), [(key, ("of", key)) for key in MANY])
        self.assertEqual(book.rows("great"), [(key, ("of", key)) for key in MANY[1::2]])


class MarkTest(BookCase):
    """[82]"""

    def test_versions_are_numbered_over_all_boughs(self):
        pair = Pair()
        self.all_at_both(pair, ("begin", "a"), ("begin", "b"))
        self.assertEqual([self.at_both(pair, "mark", name) for name in "abbaab"], [0, 1, 2, 3, 4, 5])
        self.assertEqual([pair.book.elders_of(number) for number in range(6)], [[], [], [1], [0], [3], [2]])
        self.assertEqual(self.at_both(pair, "versions"), [0, 1, 2, 3, 4, 5])

    def test_no_number_comes_again(self):
        pair = Pair()
        self.all_at_both(pair, ("begin", "a"), ("put", "a", 1, 1), ("mark", "a"), ("mark", "a"), ("let_go", 1),
                         ("let_go", 0))
        self.assertEqual(self.at_both(pair, "mark", "a"), 2)
        self.assertEqual(pair.book.elders_of(2), [1])

    def test_mark_again_without_a_change(self):
        pair = Pair()
        self.all_at_both(pair, ("begin", "a"), ("put", "a", 1, 1))
        many = pair.shelf.many()
        for number in range(5):
            self.assertEqual(self.at_both(pair, "mark", "a"), number)
        self.assertEqual(pair.shelf.many(), many)
        self.assertEqual(Picture(pair.shelf).holds(), [0] * 6)

    def test_elders(self):
        pair = Pair()
        self.all_at_both(pair, ("begin", "a"), ("mark", "a"), ("branch", "b", 0), ("mark", "b"), ("mark", "a"),
                         ("back", "b", 2))
        self.all_at_both(pair, ("mark", "b"), ("back", "b", 0), ("mark", "b"), ("branch", "c", 4), ("back", "c", 1),
                         ("mark", "c"))
        self.assertEqual([pair.book.elders_of(number) for number in range(6)], [[], [0], [0], [2], [0], [1]])

    def test_a_bough_without_a_last_version_goes_back(self):
        pair = Pair()
        self.all_at_both(pair, ("begin", "a"), ("put", "a", 1, 1), ("mark", "a"), ("begin", "b"), ("put", "b", 2, 2))
        self.assertIsNone(self.at_both(pair, "back", "b", 0))
        self.assertEqual(pair.book.rows("b"), [(1, 1)])
        self.assertEqual(pair.book.elders_of(self.at_both(pair, "mark", "b")), [0])

    def test_back_to_its_own_last_version(self):
        pair = Pair()
        self.all_at_both(pair, ("begin", "a"), ("put", "a", 1, 1), ("mark", "a"), ("put", "a", 2, 2), ("take", "a", 1))
        self.all_at_both(pair, ("back", "a", 0), ("back", "a", 0))
        self.assertEqual(pair.book.rows("a"), [(1, 1)])
        self.assertEqual(Picture(pair.shelf).holds(), [0, 0])

    def test_versions_without_rows(self):
        pair = Pair()
        self.all_at_both(pair, ("begin", "a"), ("mark", "a"), ("put", "a", 1, 1), ("mark", "a"), ("branch", "b", 0),
                         ("back", "a", 0))
        self.assertEqual((pair.book.rows("a"), pair.book.rows("b"), pair.book.rows_at(0)), ([], [], []))
        self.assertEqual(Picture(pair.shelf).holds(), [0])
        self.all_at_both(pair, ("let_go", 1), ("let_go", 0))
        self.assertEqual(pair.shelf.many(), 0)

    def test_versions_stay_whatever_is_done_to_boughs(self):
        pair = Pair()
        self.at_both(pair, "begin", "a")
        for key in MANY[:40]:
            pair.book.put("a", key, 1)
            pair.plain.put("a", key, 1)
        self.all_at_both(pair, ("mark", "a"), ("branch", "b", 0))
        rows = [(key, 1) for key in MANY[:40]]
        for key in MANY[:40]:
            self.all_at_both(pair, ("put", "a", key, 2), ("take", "b", key))
            self.assertEqual(pair.book.rows_at(0), rows)
        self.all_at_both(pair, ("mark", "b"), ("meet", "a", 1, "base"), ("back", "a", 1), ("close", "b"),
                         ("close", "a"))
        self.assertEqual(pair.book.rows_at(0), rows)
        self.assertEqual(pair.book.rows_at(1), [])
        self.end_both(pair)

    def test_mark_branch_back_and_close_put_no_twig(self):
        shelf = NotingShelf()
        book = Book(shelf)
        book.begin("a")
        for key in MANY[:100]:
            book.put("a", key, 1)
        shelf.puts, many = [], shelf.many()
        book.mark("a")
        book.branch("b", 0)
        book.mark("b")
        self.assertEqual((shelf.puts, shelf.many()), ([], many))
        book.put("a", MANY[0], 2)
        shelf.puts, many = [], shelf.many()
        book.back("b", 1)
        self.assertEqual((shelf.puts, shelf.many()), ([], many))
        book.close("b")
        book.back("a", 0)
        book.close("a")
        self.assertEqual(shelf.puts, [])
        self.assertLess(shelf.many(), many)

    def test_a_bough_that_shares_nothing_is_changed_in_place(self):
        pair = Pair()
        self.at_both(pair, "begin", "a")
        for key in MANY[:30]:
            self.at_both(pair, "put", "a", key, 1)
        numbers = pair.shelf.numbers()
        for key in MANY[:30]:
            self.at_both(pair, "put", "a", key, 2)
        self.assertEqual(pair.shelf.numbers(), numbers)
        self.all_at_both(pair, ("mark", "a"), ("let_go", 0))
        for key in MANY[:30]:
            self.at_both(pair, "put", "a", key, 3)
        self.assertEqual(pair.shelf.numbers(), numbers)


class VersionTest(BookCase):
    """[84]"""

    def forked(self):
        """0 at a, 1 at b from it, 2 and 3 at a, 4 where b meets 3, 5 at c from 2."""
        pair = Pair()
        self.all_at_both(
            pair, ("begin", "a"), ("put", "a", 1, "x"), ("put", "a", 2, "x"), ("mark", "a"), ("branch", "b", 0),
            ("put", "b", 1, "b"), ("mark", "b"), ("take", "a", 2), ("mark", "a"), ("put", "a", 3, "n"), ("mark", "a"),
            ("meet", "b", 3, "one"), ("branch", "c", 2), ("put", "c", 1, "c"), ("mark", "c"),
        )
        return pair

    def test_what_is_told(self):
        pair = self.forked()
        self.assertEqual(self.at_both(pair, "versions"), [0, 1, 2, 3, 4, 5])
        self.assertEqual([pair.book.elders_of(number) for number in range(6)], [[], [0], [0], [2], [1, 3], [2]])
        self.assertEqual(self.at_both(pair, "rows_at", 4), [(1, "b"), (3, "n")])
        self.assertEqual(self.at_both(pair, "side_at", 0, 2), ["x"])
        self.assertEqual(self.at_both(pair, "side_at", 4, 2), [])
        self.assertEqual(self.at_both(pair, "side_at", 4, "a001"), [])
        self.assertEqual(self.at_both(pair, "between", 0, 4), [(1, ["x"], ["b"]), (2, ["x"], []), (3, [], ["n"])])
        self.assertEqual(self.at_both(pair, "between", 4, 0), [(1, ["b"], ["x"]), (2, [], ["x"]), (3, ["n"], [])])
        self.assertEqual(self.at_both(pair, "between", 4, 4), [])
        self.end_both(pair)

    def test_base_of(self):
        pair = self.forked()
        for one, other, wanted in [(1, 2, 0), (1, 3, 0), (4, 3, 3), (4, 5, 2), (4, 4, 4), (5, 1, 0), (0, 5, 0),
                                   (1, 4, 1)]:
            self.assertEqual(self.at_both(pair, "base_of", one, other), wanted)
            self.assertEqual(self.at_both(pair, "base_of", other, one), wanted)
        self.at_both(pair, "let_go", 2)
        self.assertEqual(self.at_both(pair, "base_of", 4, 5), 0)
        self.at_both(pair, "let_go", 0)
        self.assertIsNone(self.at_both(pair, "base_of", 4, 5))
        self.assertEqual(self.at_both(pair, "base_of", 5, 5), 5)
        self.all_at_both(pair, ("begin", "d"), ("mark", "d"))
        self.assertIsNone(self.at_both(pair, "base_of", 6, 4))

    def test_the_greatest_of_several_bases(self):
        """Two that have the same two elders."""
        pair = Pair()
        self.all_at_both(pair, ("begin", "a"), ("begin", "b"), ("put", "a", 1, 1), ("put", "b", 2, 2), ("mark", "a"),
                         ("mark", "b"))
        self.all_at_both(pair, ("meet", "a", 1, "one"), ("meet", "b", 0, "one"))
        self.assertEqual((pair.book.elders_of(2), pair.book.elders_of(3)), ([0, 1], [1, 0]))
        self.assertEqual(self.at_both(pair, "base_of", 2, 3), 1)
        self.at_both(pair, "let_go", 1)
        self.assertEqual(self.at_both(pair, "base_of", 3, 2), 0)

    def test_let_go(self):
        pair = self.forked()
        before = pair.shelf.many()
        self.assertIsNone(self.at_both(pair, "let_go", 1))
        self.assertEqual(self.at_both(pair, "versions"), [0, 2, 3, 4, 5])
        self.assertEqual(self.at_both(pair, "elders_of", 1), [0])
        self.assertEqual(self.at_both(pair, "elders_of", 4), [1, 3])
        self.assertLess(pair.shelf.many(), before)
        self.all_at_both(pair, ("let_go", 5), ("let_go", 0), ("let_go", 3))
        self.assertEqual(self.at_both(pair, "versions"), [2, 4])
        self.assertEqual(self.at_both(pair, "mark", "a"), 6)
        self.assertEqual(pair.book.elders_of(6), [3])
        self.end_both(pair)

    def test_a_bough_goes_on_when_its_last_version_was_let_go(self):
        pair = self.forked()
        self.all_at_both(pair, ("let_go", 3), ("put", "a", 7, 7))
        self.assertEqual(self.at_both(pair, "mark", "a"), 6)
        self.assertEqual(pair.book.elders_of(6), [3])
        self.assertEqual(pair.book.rows_at(6), [(1, "x"), (3, "n"), (7, 7)])

    def test_story(self):
        pair = self.forked()
        self.assertEqual(self.at_both(pair, "story", 1), [(0, ["x"]), (1, ["b"]), (5, ["c"])])
        self.assertEqual(self.at_both(pair, "story", 2), [(0, ["x"]), (2, []), (4, [])])
        self.assertEqual(self.at_both(pair, "story", 3), [(3, ["n"]), (4, ["n"])])
        self.assertEqual(self.at_both(pair, "story", "a001"), [])

    def test_story_goes_past_such_as_were_let_go(self):
        pair = self.forked()
        self.at_both(pair, "let_go", 1)
        self.assertEqual(self.at_both(pair, "story", 1), [(0, ["x"]), (4, ["b"]), (5, ["c"])])
        self.at_both(pair, "let_go", 2)
        self.assertEqual(self.at_both(pair, "story", 2), [(0, ["x"]), (3, []), (4, []), (5, [])])
        self.at_both(pair, "let_go", 0)
        self.assertEqual(self.at_both(pair, "story", 1), [(3, ["x"]), (4, ["b"]), (5, ["c"])])
        self.assertEqual(self.at_both(pair, "story", 2), [])
        self.all_at_both(pair, ("let_go", 3), ("let_go", 4), ("let_go", 5))
        self.assertEqual(self.at_both(pair, "story", 1), [])

    def test_story_goes_by_first_elders_alone(self):
        """What came by the second elder is new there, also where that one is kept and the first one isn't."""
        pair = Pair()
        self.all_at_both(pair, ("begin", "a"), ("mark", "a"), ("begin", "b"), ("put", "b", 1, "x"), ("mark", "b"))
        self.assertEqual(self.at_both(pair, "meet", "a", 1, "one"), (2, []))
        self.assertEqual(self.at_both(pair, "story", 1), [(1, ["x"]), (2, ["x"])])
        self.at_both(pair, "let_go", 0)
        self.assertEqual(self.at_both(pair, "story", 1), [(1, ["x"]), (2, ["x"])])

    def test_story_of_a_key_that_was_taken_and_put_again(self):
        pair = Pair()
        self.at_both(pair, "begin", "a")
        for side in (["x"], [], ["x"], ["x"], ["y"], [], []):
            if side:
                self.at_both(pair, "put", "a", 1, side[0])
            else:
                self.at_both(pair, "take", "a", 1)
            self.at_both(pair, "mark", "a")
        self.assertEqual(self.at_both(pair, "story", 1), [(0, ["x"]), (1, []), (2, ["x"]), (4, ["y"]), (5, [])])
        self.all_at_both(pair, ("let_go", 1), ("let_go", 4))
        self.assertEqual(self.at_both(pair, "story", 1), [(0, ["x"]), (5, [])])
        self.all_at_both(pair, ("let_go", 0), ("let_go", 2), ("let_go", 3))
        self.assertEqual(self.at_both(pair, "story", 1), [])

    def test_sides_that_are_unlike_in_kind_alone(self):
        pair = Pair()
        self.all_at_both(pair, ("begin", "a"), ("put", "a", 1, 5), ("mark", "a"), ("put", "a", 1, "5"), ("mark", "a"))
        self.all_at_both(pair, ("put", "a", 1, (5,)), ("mark", "a"))
        self.assertEqual(self.at_both(pair, "story", 1), [(0, [5]), (1, ["5"]), (2, [(5,)])])
        self.assertEqual(self.at_both(pair, "between", 0, 1), [(1, [5], ["5"])])

    def test_long_rows_of_versions(self):
        pair = Pair()
        book, plain = pair.book, pair.plain
        for each in (book, plain):
            each.begin("a")
            for number in range(190):
                each.put("a", RISING[number % 7], number // 5)
                each.mark("a")
        for number in range(1, 150):
            book.let_go(number)
            plain.let_go(number)
        self.assert_book(pair)
        for key in RISING[:8]:
            self.assertEqual(self.at_both(pair, "story", key), plain.story(key))
        self.assertEqual(self.at_both(pair, "base_of", 189, 150), 150)
        self.end_both(pair)


class OwnListsTest(BookCase):
    """[2]: lists that were told are the asker's own; the case spoils each one that is told."""

    def test_told_lists_changed_by_the_asker(self):
        pair = Pair()
        self.all_at_both(pair, ("begin", "a"), ("put", "a", 1, (1, "x")), ("put", "a", 2, "y"), ("mark", "a"),
                         ("put", "a", 1, "z"))
        self.all_at_both(pair, ("begin", "b"), ("put", "b", 1, "b"), ("mark", "b"), ("meet", "b", 0, "base"),
                         ("mark", "a"))
        deeds = [
            ("names",), ("versions",), ("rows", "a"), ("rows_at", 0), ("side", "a", 1), ("side_at", 0, 1),
            ("elders_of", 2),
            ("elders_of", 3), ("between", 0, 3), ("between", 1, 2), ("story", 1), ("story", 2), ("take", "b", 7),
        ]
        first = self.all_at_both(pair, *deeds)
        self.assertEqual(self.all_at_both(pair, *deeds), first)
        self.all_at_both(pair, ("branch", "c", 2), ("mark", "c"), ("meet", "a", 4, "other"))
        self.assertEqual(self.all_at_both(pair, *deeds[3:4]), first[3:4])

    def test_told_clashes_changed_by_the_asker(self):
        pair = Pair()
        self.all_at_both(pair, ("begin", "a"), ("put", "a", 1, "a"), ("mark", "a"), ("begin", "b"),
                         ("put", "b", 1, "b"))
        told = pair.book.meet("b", 0, "one")
        self.assertEqual(told, (1, [(1, [], ["b"], ["a"])]))
        self.assertIs(type(told), tuple)
        for side in told[1][0][1:]:
            side.append("changed")
        told[1].clear()
        self.assertEqual((pair.book.rows("b"), pair.book.rows_at(0), pair.book.rows_at(1)),
                         ([(1, "b")], [(1, "a")], [(1, "b")]))


class ShelfTest(BookCase):
    """[85]: others on the shelf of a book."""

    def test_tables_beside_a_book(self):
        pair = Pair()
        table = filled(pair.shelf, [(key, 1) for key in MANY[:20]])
        pair.held = [table.root]
        self.all_at_both(pair, ("begin", "a"), ("put", "a", MANY[0], 1), ("mark", "a"), ("put", "a", MANY[1], 1))
        for key in MANY[:20]:
            self.put_audited(table, key, 2)
            self.assert_book(pair)
        self.all_at_both(pair, ("take", "a", MANY[0]), ("back", "a", 0))
        self.end_both(pair)
        self.assertEqual(table.rows(), [(key, 2) for key in MANY[:20]])

    def test_twigs_of_a_book_that_an_asker_holds(self):
        pair = Pair()
        self.at_both(pair, "begin", "a")
        for key in MANY[:30]:
            self.at_both(pair, "put", "a", key, 1)
        pair.held = [pair.shelf.numbers()[0], pair.shelf.numbers()[-1]]
        for number in pair.held:
            pair.shelf.hold(number)
        before = Picture(pair.shelf)
        tables = [Table(pair.shelf, number) for number in pair.held]
        for key in MANY[:30]:
            self.at_both(pair, "put", "a", key, 2)
        self.assertEqual([table.rows() for table in tables], [before.rows(table.root) for table in tables])
        self.at_both(pair, "mark", "a")
        for table in tables:
            pair.held.remove(table.root)
            for key in MANY[:30]:
                self.take_audited(table, key)
                self.assert_book(pair)
        self.end_both(pair)
        self.assertEqual(pair.shelf.many(), 0)

    def test_two_books_on_one_shelf(self):
        shelf = NotingShelf()
        pairs = [Pair(shelf), Pair(shelf)]
        for turn in range(12):
            for at, pair in enumerate(pairs):
                for each in (pair.book, pair.plain):
                    if turn == 0:
                        each.begin("a")
                    each.put("a", MANY[turn], at)
                    each.mark("a")
                self.assert_just_held(Picture(shelf), [], pairs)
                for each in pairs:
                    self.assert_book(each)
        pairs[0].book.close("a")
        for number in range(12):
            pairs[0].book.let_go(number)
        self.assert_just_held(Picture(shelf), [], pairs[1:])
        self.assert_book(pairs[1])

    def test_keys_and_values_of_all_kinds(self):
        pair = Pair()
        self.at_both(pair, "begin", "a")
        for key, value in zip(ODD + RISING[::40], reversed(ODD + RISING[::40])):
            self.assertIs(self.at_both(pair, "put", "a", key, value), True)
        self.at_both(pair, "mark", "a")
        for key in ODD + RISING[::40]:
            self.all_at_both(pair, ("take", "a", key), ("side_at", 0, key), ("story", key))
        self.end_both(pair)


if __name__ == "__main__":
    unittest.main()

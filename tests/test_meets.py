"""[83]: a bough meets a version."""

import itertools
import unittest

from audits import MANY, Picture
from books import KEEPS, BookCase, Pair
from trees import rows_for
from twigmap.fills import filled


class MeetCase(BookCase):
    def begun(self, *names):
        pair = Pair()
        for name in names:
            self.at_both(pair, "begin", name)
        return pair

    def give(self, pair, name, rows):
        """The bough has just these rows then."""
        for key, _ in pair.plain.rows(name):
            self.at_both(pair, "take", name, key)
        for key, value in rows.items():
            self.at_both(pair, "put", name, key, value)

    def mark_with(self, pair, name, rows):
        self.give(pair, name, rows)
        return self.at_both(pair, "mark", name)

    def assert_again(self, pair, name, number):
        """Met again there are no clashes, and no rows are others."""
        rows = pair.plain.rows(name)
        for keep in KEEPS:
            last = pair.plain.lasts[name]
            told = self.at_both(pair, "meet", name, number, keep)
            self.assertEqual(told, (last + 1, []))
            self.assertEqual(pair.book.elders_of(told[0]), [last, number])
            self.assertEqual((pair.book.rows(name), pair.book.rows_at(told[0])), (rows, rows))


class KeepTest(MeetCase):
    def test_each_keep(self):
        for keep, wanted in [
            ("base", [(1, "z"), (2, "one"), (3, "other"), (4, "both"), (6, "z")]),
            ("one", [(1, "one"), (2, "one"), (3, "other"), (4, "both")]),
            ("other", [(1, "other"), (2, "one"), (3, "other"), (4, "both"), (6, "other")]),
        ]:
            pair = self.begun("a")
            self.mark_with(pair, "a", {1: "z", 2: "z", 3: "z", 4: "z", 5: "z", 6: "z"})
            self.at_both(pair, "branch", "b", 0)
            self.mark_with(pair, "b", {1: "other", 2: "z", 3: "other", 4: "both", 6: "other"})
            self.give(pair, "a", {1: "one", 2: "one", 3: "z", 4: "both", 5: "z"})
            clashes = [(1, ["z"], ["one"], ["other"]), (6, ["z"], [], ["other"])]
            self.assertEqual(self.at_both(pair, "meet", "a", 1, keep), (2, clashes))
            self.assertEqual((pair.book.rows("a"), pair.book.rows_at(2)), (wanted, wanted))
            self.assertEqual(pair.book.elders_of(2), [0, 1])
            self.assertEqual(pair.book.rows_at(1), [(1, "other"), (2, "z"), (3, "other"), (4, "both"), (6, "other")])
            self.assert_again(pair, "a", 1)
            self.end_both(pair)

    def test_a_bough_without_a_last_version(self):
        for keep, wanted in [("base", []), ("one", [(1, "b")]), ("other", [(1, "a")])]:
            pair = self.begun("a", "b")
            self.mark_with(pair, "a", {1: "a", 2: "a", 4: "same"})
            self.give(pair, "b", {1: "b", 3: "b", 4: "same"})
            self.assertEqual(self.at_both(pair, "meet", "b", 0, keep), (1, [(1, [], ["b"], ["a"])]))
            self.assertEqual(pair.book.rows("b"), wanted + [(2, "a"), (3, "b"), (4, "same")])
            self.assertEqual(pair.book.elders_of(1), [0])
            self.assert_again(pair, "b", 0)
            self.end_both(pair)

    def test_a_bough_without_rows_and_without_a_last_version(self):
        for keep in KEEPS:
            pair = self.begun("a", "b")
            self.mark_with(pair, "a", dict(rows_for(MANY[:30])))
            before = Picture(pair.shelf)
            self.assertEqual(self.at_both(pair, "meet", "b", 0, keep), (1, []))
            self.assertEqual(pair.book.rows("b"), rows_for(MANY[:30]))
            self.assertEqual(Picture(pair.shelf).found, before.found)
            self.assertEqual(pair.book.elders_of(1), [0])

    def test_a_version_without_rows(self):
        pair = self.begun("a", "b")
        self.at_both(pair, "mark", "a")
        self.give(pair, "b", {1: "b"})
        self.assertEqual(self.at_both(pair, "meet", "b", 0, "other"), (1, []))
        self.assertEqual(pair.book.rows("b"), [(1, "b")])
        self.all_at_both(pair, ("branch", "c", 1), ("take", "c", 1), ("mark", "c"), ("put", "b", 2, "b"))
        self.assertEqual(self.at_both(pair, "meet", "b", 2, "base"), (3, []))
        self.assertEqual(pair.book.rows("b"), [(2, "b")])

    def test_numbers_that_have_nothing_in_common(self):
        """The base is a table without rows, so what both have must be alike."""
        for keep, wanted in [("base", []), ("one", [(1, "b")]), ("other", [(1, "a")])]:
            pair = self.begun("a", "b")
            self.mark_with(pair, "a", {1: "a", 2: "same"})
            self.mark_with(pair, "b", {1: "b", 2: "same", 3: "b"})
            self.assertEqual(self.at_both(pair, "meet", "b", 0, keep), (2, [(1, [], ["b"], ["a"])]))
            self.assertEqual(pair.book.rows("b"), wanted + [(2, "same"), (3, "b")])
            self.assertEqual(pair.book.elders_of(2), [1, 0])


class KinTest(MeetCase):
    """Of the same version, of one from which it comes, and of one that comes from it."""

    def row(self):
        """0, 1, 2 one behind the other at a, and b begun from 1."""
        pair = self.begun("a")
        self.mark_with(pair, "a", {1: 0, 2: 0, 3: 0})
        self.mark_with(pair, "a", {1: 1, 2: 0, 3: 0})
        self.mark_with(pair, "a", {1: 1, 2: 2})
        self.at_both(pair, "branch", "b", 1)
        return pair

    def test_the_same_version(self):
        for keep in KEEPS:
            pair = self.row()
            self.assertEqual(self.at_both(pair, "meet", "b", 1, keep), (3, []))
            self.assertEqual((pair.book.elders_of(3), pair.book.rows("b")), ([1], pair.book.rows_at(1)))

    def test_the_same_version_behind_changes(self):
        """The base is the version itself, so the bough's changes stand."""
        for keep in KEEPS:
            pair = self.row()
            self.give(pair, "b", {1: "b", 4: "b"})
            self.assertEqual(self.at_both(pair, "meet", "b", 1, keep), (3, []))
            self.assertEqual((pair.book.elders_of(3), pair.book.rows("b")), ([1], [(1, "b"), (4, "b")]))

    def test_one_from_which_it_comes(self):
        for keep in KEEPS:
            pair = self.row()
            self.at_both(pair, "put", "b", 1, "b")
            self.assertEqual(self.at_both(pair, "meet", "b", 0, keep), (3, []))
            self.assertEqual((pair.book.elders_of(3), pair.book.rows("b")), ([1, 0], [(1, "b"), (2, 0), (3, 0)]))

    def test_one_that_comes_from_it(self):
        for keep, wanted in [("base", 0), ("one", "b"), ("other", 2)]:
            pair = self.row()
            before = pair.shelf.many()
            self.assertEqual(self.at_both(pair, "meet", "b", 2, keep), (3, []))
            self.assertEqual((pair.book.rows("b"), pair.shelf.many()), ([(1, 1), (2, 2)], before))
            pair = self.row()
            self.all_at_both(pair, ("put", "b", 2, "b"), ("put", "b", 4, 4))
            self.assertEqual(self.at_both(pair, "meet", "b", 2, keep), (3, [(2, [0], ["b"], [2])]))
            self.assertEqual((pair.book.elders_of(3), pair.book.rows("b")), ([1, 2], [(1, 1), (2, wanted), (4, 4)]))
            self.assert_again(pair, "b", 2)

    def test_both_ways(self):
        """A bough meets another's version, and that one meets the new version."""
        pair = self.row()
        self.mark_with(pair, "b", {1: 1, 2: 0, 3: "b"})
        self.assertEqual(self.at_both(pair, "meet", "a", 3, "one"), (4, [(3, [0], [], ["b"])]))
        self.assertEqual(self.at_both(pair, "meet", "b", 4, "one"), (5, []))
        self.assertEqual((pair.book.rows("a"), pair.book.rows("b")), ([(1, 1), (2, 2)], [(1, 1), (2, 2)]))
        self.assertEqual((pair.book.elders_of(4), pair.book.elders_of(5)), ([2, 3], [3, 4]))

    def test_behind_back_and_branch(self):
        """The last version is the one gone back to."""
        pair = self.row()
        self.all_at_both(pair, ("back", "a", 0), ("put", "a", 1, "a"))
        self.assertEqual(self.at_both(pair, "meet", "a", 2, "one"), (3, [(1, [0], ["a"], [1])]))
        self.assertEqual((pair.book.rows("a"), pair.book.elders_of(3)), ([(1, "a"), (2, 2)], [0, 2]))


class BaseTest(MeetCase):
    """The base is the greatest kept version from which both come."""

    def fork(self):
        """0, 1, 2 at a, then 3 at b from 2 and 4 at a, each with another value at key 1."""
        pair = self.begun("a")
        for number in range(3):
            self.mark_with(pair, "a", {1: number, 2: number})
        self.at_both(pair, "branch", "b", 2)
        self.mark_with(pair, "b", {1: 3, 2: 2})
        self.mark_with(pair, "a", {1: 4, 2: 2})
        return pair

    def test_with_greater_ones_let_go(self):
        for gone, base in [([], [2]), ([0, 1], [2]), ([2], [1]), ([2, 0], [1]), ([1, 2], [0]), ([0, 1, 2], []),
                           ([2, 4], [1])]:
            pair = self.fork()
            self.all_at_both(pair, *[("let_go", number) for number in gone])
            self.assertEqual(self.at_both(pair, "meet", "a", 3, "base"), (5, [(1, base, [4], [3])]))
            self.assertEqual(pair.book.rows("a"), [(1, value) for value in base] + [(2, 2)])
            self.assertEqual(pair.book.elders_of(5), [4, 3])
            self.end_both(pair)

    def test_the_last_version_itself_was_let_go(self):
        """Then it is no base, though the number comes from it."""
        pair = self.fork()
        self.all_at_both(pair, ("branch", "c", 2), ("put", "c", 1, "c"), ("let_go", 2))
        self.assertEqual(self.at_both(pair, "meet", "c", 3, "one"), (5, [(1, [1], ["c"], [3])]))
        self.assertEqual(pair.book.elders_of(5), [2, 3])

    def test_crosses(self):
        """Of two bases that don't come from one another it is the greater one."""
        pair = self.begun("a", "b")
        self.mark_with(pair, "a", {1: "a", 2: "a"})
        self.mark_with(pair, "b", {1: "b", 2: "b"})
        self.all_at_both(pair, ("meet", "a", 1, "one"), ("meet", "b", 0, "one"))
        self.all_at_both(pair, ("put", "a", 2, "new"), ("branch", "c", 2), ("put", "c", 2, "c"))
        self.assertEqual(self.at_both(pair, "meet", "a", 3, "one"), (4, []))
        self.assertEqual(pair.book.rows("a"), [(1, "a"), (2, "new")])
        self.at_both(pair, "let_go", 1)
        self.assertEqual(self.at_both(pair, "meet", "c", 3, "other"), (5, [(2, ["a"], ["c"], ["b"])]))
        self.assertEqual(pair.book.rows("c"), [(1, "b"), (2, "b")])

    def test_a_greater_common_one_that_is_older_along_a_road(self):
        """1 is greater than 0, and both are common; it is the greatest that counts, not the nearest."""
        pair = self.begun("a", "b")
        self.mark_with(pair, "a", {1: "a"})
        self.mark_with(pair, "b", {1: "b"})
        self.assertEqual(self.at_both(pair, "meet", "a", 1, "one"), (2, [(1, [], ["a"], ["b"])]))
        self.all_at_both(pair, ("branch", "c", 2), ("back", "a", 0), ("put", "a", 1, "new"), ("let_go", 2))
        self.assertEqual(self.at_both(pair, "meet", "c", 0, "one"), (3, []))
        self.all_at_both(pair, ("mark", "a"), ("put", "c", 1, "c"))
        self.assertEqual(self.at_both(pair, "meet", "c", 4, "one"), (5, [(1, ["a"], ["c"], ["new"])]))

    def test_all_small_stories(self):
        """A bough and a version of each pair of seven that fork and meet, with each one of them let go."""
        for gone, keep in itertools.product([None, *range(6)], KEEPS):
            for last, number in itertools.product(range(6), repeat=2):
                pair = Pair()
                book, plain = pair.book, pair.plain
                for each in (book, plain):
                    self.small_story(each)
                    each.branch("c", last)
                    each.put("c", 1, "c")
                    if gone is not None:
                        each.let_go(gone)
                if number != gone:
                    self.at_both(pair, "meet", "c", number, keep)

    def small_story(self, book):
        book.begin("a")
        book.put("a", 1, 0)
        book.mark("a")
        book.branch("b", 0)
        book.put("a", 1, 1)
        book.mark("a")
        book.put("b", 2, 2)
        book.mark("b")
        book.meet("a", 2, "one")
        book.meet("b", 1, "other")
        book.take("b", 1)
        book.mark("b")


class TwigsTest(MeetCase):
    """What is held, and what is shared."""

    def great(self, changed, taken):
        """A version 0 of four hundred rows, version 1 with some of them changed, and the bough a with some taken."""
        pair = Pair()
        for each in (pair.book, pair.plain):
            each.begin("a")
            for key in MANY:
                each.put("a", key, 1)
            each.mark("a")
            each.branch("b", 0)
            for key in changed:
                each.put("b", key, "b")
            each.mark("b")
            for key in taken:
                each.take("a", key)
        return pair

    def test_great_tables(self):
        for keep in KEEPS:
            pair = self.great(MANY[::7], MANY[::5])
            told = self.at_both(pair, "meet", "a", 1, keep)
            self.assertEqual([clash[0] for clash in told[1]], MANY[::35])
            self.end_both(pair)

    def test_few_new_twigs_where_little_was_changed(self):
        pair = self.great(MANY[3:4], MANY[300:301])
        many = pair.shelf.many()
        self.assertEqual(self.at_both(pair, "meet", "a", 1, "one"), (2, []))
        self.assertLess(pair.shelf.many(), many + 20)

    def test_beside_tables_that_share_nothing(self):
        pair = self.begun("a")
        table = filled(pair.shelf, rows_for(MANY[:9]))
        pair.held = [table.root]
        self.mark_with(pair, "a", dict(rows_for(MANY[:9])))
        self.all_at_both(pair, ("begin", "b"), ("put", "b", MANY[0], "b"))
        self.at_both(pair, "meet", "b", 0, "other")
        self.end_both(pair)
        self.assertEqual(table.rows(), rows_for(MANY[:9]))


if __name__ == "__main__":
    unittest.main()

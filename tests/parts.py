"""What the tests of filled, bonded and cut tables share: all that is asked of each call, by pictures of the shelf."""

from audits import AuditCase, Picture, slender
from trees import PLACES
from twigmap.bonds import bonded
from twigmap.cuts import cut, gapped, span
from twigmap.errors import NotRising, Overlap
from twigmap.fills import filled
from twigmap.tables import Table


def spiny(height, at):
    """Slender, but with as many branches as may be all along one side: the first one (0) or the last one (-1)."""
    if height == 0:
        return 4
    parts = [slender(height - 1)] * 4
    parts[at] = spiny(height - 1, at)
    return parts


def rows_where(rows, fits):
    return [row for row in rows if fits(PLACES[row[0]])]


class PartCase(AuditCase):
    def told_audited(self, shelf, wanted, deed, *things):
        """[51] of a call that tells tables with these rows; told are they, and the pictures ahead and behind."""
        given = [(thing, thing.root) for thing in things if isinstance(thing, Table)]
        before = Picture(shelf)
        told = deed(*things)
        after = Picture(shelf)
        tables = [part for part in told if isinstance(part, Table)] if type(told) is tuple else [told]
        self.assertEqual([after.rows(table.root) for table in tables], wanted)
        self.assertEqual([table.root is None for table in tables], [rows == [] for rows in wanted])
        for table in tables:
            self.assertIs(type(table), Table)
            self.assertIs(table.shelf, shelf)
        made = [id(table) for table in tables + [table for table, _ in given]]
        self.assertEqual(len(set(made)), len(tables) + len({id(table) for table, _ in given}))
        self.assertEqual([table.root for table, _ in given], [root for _, root in given])
        self.assert_shelf_behind(before, after, [table.root for table in tables if table.root is not None])
        return told, before, after

    def assert_shelf_behind(self, before, after, roots):
        self.assert_even(after)
        for number in before.found:
            self.assertEqual(after.found.get(number), before.found[number])
            self.assertEqual(after.labels[number], before.labels[number])
        self.assertEqual(after.holds(), sorted(before.holds() + roots))
        self.assertEqual(set(after.found), set(before.found) | after.reached_by(roots))
        new = set(after.found) - set(before.found)
        self.assertFalse([number for number in new if number <= max(before.found, default=-1)])

    def filled_audited(self, shelf, rows):
        given = list(rows)
        told, _, after = self.told_audited(shelf, [given], filled, shelf, rows)
        self.assertEqual(rows, given)
        self.assertEqual(len(after.leaves(told.root)), (len(rows) + 3) // 4)
        return told

    def filled_refused(self, shelf, rows, at):
        given = list(rows)
        self.assert_nothing_changed(shelf, NotRising(at), filled, shelf, rows)
        self.assertEqual(rows, given)

    def bonded_audited(self, one, other):
        """Told is also how many twigs are new; None for the table where the two overlap."""
        shelf = one.shelf
        rows = [one.rows(), other.rows()]
        if all(rows) and PLACES[rows[0][-1][0]] >= PLACES[rows[1][0][0]]:
            roots = (one.root, other.root)
            self.assert_nothing_changed(shelf, Overlap(rows[1][0][0]), bonded, one, other)
            self.assertEqual((one.root, other.root), roots)
            return None, 0
        told, before, after = self.told_audited(shelf, [rows[0] + rows[1]], bonded, one, other)
        self.assertEqual(after.leaves(told.root), before.leaves(one.root) + before.leaves(other.root))
        new = set(after.reach(told.root)) - set(before.reach(one.root)) - set(before.reach(other.root))
        if all(rows):
            self.assertLessEqual(len(new), 2 * abs(before.height(one.root) - before.height(other.root)) + 1)
        else:
            self.assertEqual(told.root, one.root if rows[0] else other.root)
        return told, len(new)

    def cut_audited(self, table, key):
        rows, place = table.rows(), PLACES[key]
        wanted = [rows_where(rows, lambda at: at < place), rows_where(rows, lambda at: at >= place)]
        told, before, after = self.told_audited(table.shelf, wanted, cut, table, key)
        self.assertIs(type(told), tuple)
        self.assertLessEqual(len(self.parted_leaves(before, table, after, told)), 1)
        return told

    def span_audited(self, table, low, high):
        wanted = rows_where(table.rows(), lambda at: PLACES[low] <= at < PLACES[high])
        told, before, after = self.told_audited(table.shelf, [wanted], span, table, low, high)
        self.parted_leaves(before, table, after, [told])
        return told

    def gapped_audited(self, table, low, high):
        wanted = rows_where(table.rows(), lambda at: not PLACES[low] <= at < PLACES[high])
        told, before, after = self.told_audited(table.shelf, [wanted], gapped, table, low, high)
        self.parted_leaves(before, table, after, [told])
        return told

    def parted_leaves(self, before, table, after, told):
        """The leaves of the table of which no told table has all rows; the others stand where their rows are."""
        left = before.leaves(table.root)
        for part in told:
            rows = after.rows(part.root)
            whole = [leaf for leaf in left if set(before.found[leaf][1]) <= set(rows)]
            self.assertEqual([leaf for leaf in after.leaves(part.root) if leaf in before.found], whole)
            left = [leaf for leaf in left if leaf not in whole]
            if rows == before.rows(table.root):
                self.assertEqual(part.root, table.root)
        return left

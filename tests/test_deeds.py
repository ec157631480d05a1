import copy
import unittest

from gridframe.deeds import column_in, column_out, row_in, row_out, turned
from gridframe.errors import TooBig, TooSmall
from gridframe.tables import checked, empty
from tests.helper import by_grid, small_tables

MIXED = (3, 3, [
    (0, 0, 1, 1, ("a",)),
    (0, 1, 2, 1, ("tall",)),
    (0, 2, 3, 1, ("all",)),
    (1, 0, 1, 1, ("b",)),
    (2, 0, 1, 2, ("wide", "cell")),
])


def grid_row_in(grid, at):
    """A place of the new row is of the cell above it if that goes on below, else of none."""
    new = []
    for column in range(len(grid[0])):
        spans = 0 < at < len(grid) and grid[at - 1][column] == grid[at][column]
        new.append(grid[at][column] if spans else ("new", column))
    return grid[:at] + [new] + grid[at:]


def grid_row_out(grid, at):
    return grid[:at] + grid[at + 1:]


def grid_turned(grid):
    return [list(column) for column in zip(*grid)]


def grid_column_in(grid, at):
    return grid_turned(grid_row_in(grid_turned(grid), at))


def grid_column_out(grid, at):
    return [names[:at] + names[at + 1:] for names in grid]


class Deeds(unittest.TestCase):
    def holds(self, table, deed, at, change):
        before = copy.deepcopy(table)
        told = deed(table, at)
        with self.subTest(table=table, deed=deed.__name__, at=at):
            self.assertEqual(table, before)
            self.assertEqual(told, by_grid(before, lambda grid: change(grid, at)))
            self.assertEqual(checked(told), told)
            told[2].clear()
            self.assertEqual(table, before)
            self.assertEqual(deed(table, at), by_grid(before, lambda grid: change(grid, at)))


class RowIn(Deeds):
    def test_ahead_of_the_first(self):
        self.assertEqual(row_in(MIXED, 0), (4, 3, [
            (0, 0, 1, 1, ()), (0, 1, 1, 1, ()), (0, 2, 1, 1, ()),
            (1, 0, 1, 1, ("a",)), (1, 1, 2, 1, ("tall",)), (1, 2, 3, 1, ("all",)),
            (2, 0, 1, 1, ("b",)), (3, 0, 1, 2, ("wide", "cell")),
        ]))

    def test_behind_the_last(self):
        self.assertEqual(row_in(MIXED, 3), (4, 3, MIXED[2] + [
            (3, 0, 1, 1, ()), (3, 1, 1, 1, ()), (3, 2, 1, 1, ()),
        ]))

    def test_at_a_line_that_cells_span(self):
        self.assertEqual(row_in(MIXED, 1), (4, 3, [
            (0, 0, 1, 1, ("a",)), (0, 1, 3, 1, ("tall",)), (0, 2, 4, 1, ("all",)),
            (1, 0, 1, 1, ()), (2, 0, 1, 1, ("b",)), (3, 0, 1, 2, ("wide", "cell")),
        ]))
        self.assertEqual(row_in(MIXED, 2), (4, 3, [
            (0, 0, 1, 1, ("a",)), (0, 1, 2, 1, ("tall",)), (0, 2, 4, 1, ("all",)),
            (1, 0, 1, 1, ("b",)), (2, 0, 1, 1, ()), (2, 1, 1, 1, ()), (3, 0, 1, 2, ("wide", "cell")),
        ]))

    def test_at_a_line_that_all_cells_span(self):
        self.assertEqual(row_in((2, 2, [(0, 0, 2, 2, ("x",))]), 1), (3, 2, [(0, 0, 3, 2, ("x",))]))

    def test_every_small_table(self):
        for table in small_tables():
            for at in range(table[0] + 1):
                self.holds(table, row_in, at, grid_row_in)

    def test_up_to_sixteen_rows(self):
        for at in (0, 7, 15):
            self.assertEqual(row_in(empty(15, 2), at), empty(16, 2))
        self.assertEqual(row_in(empty(1, 16), 1), empty(2, 16))

    def test_sixteen_rows_are_refused(self):
        for table in (empty(16, 1), empty(16, 16), (16, 2, [(0, 0, 16, 2, ("x",))])):
            before = copy.deepcopy(table)
            for at in (0, 8, 16):
                with self.assertRaises(TooBig):
                    row_in(table, at)
            self.assertEqual(table, before)


class RowOut(Deeds):
    def test_cells_of_that_row_alone_go(self):
        self.assertEqual(row_out(empty(3, 2), 1), empty(2, 2))
        self.assertEqual(row_out(MIXED, 2), (2, 3, [
            (0, 0, 1, 1, ("a",)), (0, 1, 2, 1, ("tall",)), (0, 2, 2, 1, ("all",)), (1, 0, 1, 1, ("b",)),
        ]))

    def test_taller_ones_lose_a_row(self):
        self.assertEqual(row_out(MIXED, 1), (2, 3, [
            (0, 0, 1, 1, ("a",)), (0, 1, 1, 1, ("tall",)), (0, 2, 2, 1, ("all",)), (1, 0, 1, 2, ("wide", "cell")),
        ]))

    def test_a_taller_one_that_begins_in_it_takes_its_place_in_order(self):
        self.assertEqual(row_out(MIXED, 0), (2, 3, [
            (0, 0, 1, 1, ("b",)), (0, 1, 1, 1, ("tall",)), (0, 2, 2, 1, ("all",)), (1, 0, 1, 2, ("wide", "cell")),
        ]))

    def test_every_small_table(self):
        for table in small_tables():
            for at in range(table[0]):
                if table[0] > 1:
                    self.holds(table, row_out, at, grid_row_out)

    def test_of_sixteen_rows(self):
        for at in (0, 9, 15):
            self.assertEqual(row_out(empty(16, 3), at), empty(15, 3))
        self.assertEqual(row_out((16, 1, [(0, 0, 16, 1, ("x",))]), 15), (15, 1, [(0, 0, 15, 1, ("x",))]))

    def test_the_only_row_is_refused(self):
        for table in (empty(1, 1), empty(1, 16), (1, 3, [(0, 0, 1, 3, ("x",))])):
            before = copy.deepcopy(table)
            with self.assertRaises(TooSmall):
                row_out(table, 0)
            self.assertEqual(table, before)

    def test_a_row_put_in_and_taken_out(self):
        for table in small_tables():
            for at in range(table[0] + 1):
                self.assertEqual(row_out(row_in(table, at), at), table)


class Turned(Deeds):
    def test_rows_become_columns(self):
        self.assertEqual(turned(MIXED), (3, 3, [
            (0, 0, 1, 1, ("a",)), (0, 1, 1, 1, ("b",)), (0, 2, 2, 1, ("wide", "cell")),
            (1, 0, 1, 2, ("tall",)), (2, 0, 1, 3, ("all",)),
        ]))
        self.assertEqual(turned((1, 2, [(0, 0, 1, 2, ("x", "y"))])), (2, 1, [(0, 0, 2, 1, ("x", "y"))]))
        self.assertEqual(turned(empty(1, 16)), empty(16, 1))

    def test_every_small_table(self):
        for table in small_tables():
            before = copy.deepcopy(table)
            told = turned(table)
            self.assertEqual(told, by_grid(table, grid_turned))
            self.assertEqual(checked(told), told)
            self.assertEqual(turned(told), before)
            told[2].clear()
            self.assertEqual(table, before)
            self.assertEqual(turned(table), by_grid(table, grid_turned))


class Columns(Deeds):
    def test_put_in(self):
        self.assertEqual(column_in(MIXED, 1), (3, 4, [
            (0, 0, 1, 1, ("a",)), (0, 1, 1, 1, ()), (0, 2, 2, 1, ("tall",)), (0, 3, 3, 1, ("all",)),
            (1, 0, 1, 1, ("b",)), (1, 1, 1, 1, ()), (2, 0, 1, 3, ("wide", "cell")),
        ]))

    def test_taken_out(self):
        self.assertEqual(column_out(MIXED, 0), (3, 2, [
            (0, 0, 2, 1, ("tall",)), (0, 1, 3, 1, ("all",)), (2, 0, 1, 1, ("wide", "cell")),
        ]))

    def test_every_small_table(self):
        for table in small_tables():
            for at in range(table[1] + 1):
                self.holds(table, column_in, at, grid_column_in)
            for at in range(table[1]):
                if table[1] > 1:
                    self.holds(table, column_out, at, grid_column_out)

    def test_sixteen_columns(self):
        for at in (0, 15):
            self.assertEqual(column_in(empty(2, 15), at), empty(2, 16))
            self.assertEqual(column_out(empty(2, 16), at), empty(2, 15))
        self.assertEqual(column_in(empty(16, 1), 1), empty(16, 2))
        for table in (empty(1, 16), empty(16, 16), (2, 16, [(0, 0, 2, 16, ())])):
            before = copy.deepcopy(table)
            for at in (0, 8, 16):
                with self.assertRaises(TooBig):
                    column_in(table, at)
            self.assertEqual(table, before)

    def test_the_only_column_is_refused(self):
        for table in (empty(1, 1), empty(16, 1), (3, 1, [(0, 0, 3, 1, ("x",))])):
            before = copy.deepcopy(table)
            with self.assertRaises(TooSmall):
                column_out(table, 0)
            self.assertEqual(table, before)


if __name__ == "__main__":
    unittest.main()

import unittest

from gridframe.deeds import turned
from gridframe.finer import common, is_finer, joint
from gridframe.tables import checked, empty
from tests.helper import PINWHEEL, grid_of, large_tables, one_cell, tilings, told_afresh

SIDES = [(rows, columns) for rows in range(1, 4) for columns in range(1, 4)] + [(1, 4), (2, 4), (4, 2)]


def bare(rows, columns, parts):
    return (rows, columns, [part + ((),) for part in parts])


def worded(rows, columns, parts):
    return (rows, columns, [part + ((f"w{at}",),) for at, part in enumerate(parts)])


def finer_by_grid(one, other):
    """No name of the first stands at two names of the second."""
    pairs = set()
    for names, others in zip(grid_of(one)[0], grid_of(other)[0]):
        pairs |= set(zip(names, others))
    return len(pairs) == len({name for name, _ in pairs})


def pairs_in_cells(table):
    """All pairs of places that are of one cell: those of a finer table are among those of the other."""
    grid = grid_of(table)[0]
    places = [(row, column) for row in range(table[0]) for column in range(table[1])]
    return {(one, other) for one in places for other in places if grid[one[0]][one[1]] == grid[other[0]][other[1]]}


def parts_by_grid(grid):
    """The blocks around the places of each name, in order."""
    spots = {}
    for row, names in enumerate(grid):
        for column, name in enumerate(names):
            spots.setdefault(name, []).append((row, column))
    parts = []
    for held in spots.values():
        top, left = min(row for row, _ in held), min(column for _, column in held)
        bottom, right = max(row for row, _ in held), max(column for _, column in held)
        parts.append((top, left, bottom - top + 1, right - left + 1))
    return sorted(parts)


def common_by_grid(one, other):
    pairs = [list(zip(names, others)) for names, others in zip(grid_of(one)[0], grid_of(other)[0])]
    return bare(one[0], one[1], parts_by_grid(pairs))


def joint_by_grid(one, other):
    """Names that meet in a cell, or in the block around a name, are made one until there is nothing to do."""
    grid = [list(names) for names in grid_of(one)[0]]
    blocks = [cell[:4] for cell in other[2]]
    before = None
    while grid != before:
        before = [list(names) for names in grid]
        for top, left, height, width in blocks:
            inner = {name for names in grid[top:top + height] for name in names[left:left + width]}
            grid = [[min(inner) if name in inner else name for name in names] for names in grid]
        blocks = blocks + parts_by_grid(grid)
    return bare(one[0], one[1], parts_by_grid(grid))


def pairs_of_large_tables():
    tables = large_tables()
    return [(one, other) for one in tables for other in tables if one[:2] == other[:2]]


class Finer(unittest.TestCase):
    def tells(self, expected, one, other):
        told = told_afresh(self, is_finer, one, other)
        self.assertIs(told, expected)

    def test_than_itself(self):
        for table in (PINWHEEL, empty(1, 1), empty(16, 16), one_cell(3, 2, "a")):
            self.tells(True, table, table)

    def test_than_one_cell(self):
        self.tells(True, PINWHEEL, one_cell(3, 3, "x"))
        self.tells(False, one_cell(3, 3, "x"), PINWHEEL)
        self.tells(True, empty(16, 16), one_cell(16, 16))
        self.tells(False, one_cell(16, 16), empty(16, 16))
        self.tells(True, empty(1, 1), one_cell(1, 1, "x"))

    def test_neither(self):
        rows = bare(2, 2, [(0, 0, 1, 2), (1, 0, 1, 2)])
        columns = turned(rows)
        self.tells(False, rows, columns)
        self.tells(False, columns, rows)

    def test_one_cell_that_crosses_is_enough(self):
        coarse = bare(2, 3, [(0, 0, 1, 3), (1, 0, 1, 2), (1, 2, 1, 1)])
        self.tells(True, bare(2, 3, [(0, 0, 1, 2), (0, 2, 1, 1), (1, 0, 1, 1), (1, 1, 1, 1), (1, 2, 1, 1)]), coarse)
        self.tells(False, bare(2, 3, [(0, 0, 1, 2), (0, 2, 1, 1), (1, 0, 1, 1), (1, 1, 1, 2)]), coarse)
        self.tells(False, bare(2, 3, [(0, 0, 2, 1), (0, 1, 1, 2), (1, 1, 1, 1), (1, 2, 1, 1)]), coarse)

    def test_words_do_not_matter(self):
        self.tells(True, worded(1, 2, [(0, 0, 1, 2)]), bare(1, 2, [(0, 0, 1, 2)]))
        self.tells(True, bare(1, 2, [(0, 0, 1, 2)]), worded(1, 2, [(0, 0, 1, 2)]))

    def test_all_small_tables(self):
        for rows, columns in SIDES:
            tables = [worded(rows, columns, parts) for parts in tilings(rows, columns)]
            for at, one in enumerate(tables):
                for other in tables[at % 5::5]:
                    self.assertIs(is_finer(one, other), finer_by_grid(one, other))

    def test_large_tables(self):
        for one, other in pairs_of_large_tables():
            self.tells(finer_by_grid(one, other), one, other)


class Bounds(unittest.TestCase):
    def tells(self, call, expected, one, other):
        told = told_afresh(self, call, one, other)
        self.assertEqual(told, expected)
        self.assertEqual(checked(told), expected)
        self.assertEqual({cell[4] for cell in told[2]}, {()})
        self.assertEqual(told_afresh(self, call, other, one), expected)


class Joint(Bounds):
    def test_with_itself(self):
        for rows, columns in SIDES:
            for parts in tilings(rows, columns)[::3]:
                table = worded(rows, columns, parts)
                self.tells(joint, bare(rows, columns, parts), table, table)

    def test_with_a_finer_one(self):
        self.tells(joint, bare(3, 3, [cell[:4] for cell in PINWHEEL[2]]), PINWHEEL, empty(3, 3))
        self.tells(joint, one_cell(3, 3), PINWHEEL, one_cell(3, 3, "x"))
        self.tells(joint, one_cell(16, 16), empty(16, 16), one_cell(16, 16))
        self.tells(joint, empty(16, 16), empty(16, 16), empty(16, 16))

    def test_rows_and_columns(self):
        rows = bare(2, 2, [(0, 0, 1, 2), (1, 0, 1, 2)])
        self.tells(joint, one_cell(2, 2), rows, turned(rows))

    def test_blocks_apart_stay_apart(self):
        one = worded(2, 4, [(0, 0, 1, 2), (0, 2, 1, 1), (0, 3, 1, 1), (1, 0, 1, 1), (1, 1, 1, 1), (1, 2, 1, 2)])
        other = worded(2, 4, [(0, 0, 2, 1), (0, 1, 1, 1), (0, 2, 1, 1), (0, 3, 1, 1), (1, 1, 1, 1), (1, 2, 1, 1),
                              (1, 3, 1, 1)])
        self.tells(joint, bare(2, 4, [(0, 0, 2, 2), (0, 2, 1, 1), (0, 3, 1, 1), (1, 2, 1, 2)]), one, other)

    def test_a_block_grows_again_and_again(self):
        other = worded(3, 3, [(0, 0, 1, 1), (0, 1, 2, 1), (0, 2, 1, 1), (1, 0, 1, 1), (1, 2, 1, 1), (2, 0, 1, 1),
                              (2, 1, 1, 1), (2, 2, 1, 1)])
        self.tells(joint, one_cell(3, 3), PINWHEEL, other)

    def test_a_row_of_cells_that_overlap(self):
        even = [(0, left, 1, 2) for left in range(0, 16, 2)]
        odd = [(0, 0, 1, 1)] + [(0, left, 1, 2) for left in range(1, 15, 2)] + [(0, 15, 1, 1)]
        self.tells(joint, one_cell(1, 16), worded(1, 16, even), worded(1, 16, odd))
        short = odd[:7] + [(0, left, 1, 1) for left in (13, 14, 15)]
        self.tells(joint, bare(1, 16, [(0, 0, 1, 14), (0, 14, 1, 2)]), worded(1, 16, even), worded(1, 16, short))

    def test_a_block_grows_over_others_that_it_did_not_meet(self):
        one = worded(3, 4, [(0, 0, 3, 1), (0, 1, 1, 1), (0, 2, 1, 1), (0, 3, 1, 1), (1, 1, 1, 2), (1, 3, 2, 1),
                            (2, 1, 1, 1), (2, 2, 1, 1)])
        other = worded(3, 4, [(0, 0, 1, 2), (0, 2, 1, 1), (0, 3, 1, 1), (1, 0, 1, 1), (1, 1, 1, 1), (1, 2, 1, 1),
                              (1, 3, 1, 1), (2, 0, 1, 1), (2, 1, 1, 1), (2, 2, 1, 1), (2, 3, 1, 1)])
        self.tells(joint, bare(3, 4, [(0, 0, 3, 3), (0, 3, 1, 1), (1, 3, 2, 1)]), one, other)

    def test_large_tables(self):
        for one, other in pairs_of_large_tables():
            self.tells(joint, joint_by_grid(one, other), one, other)
            self.assertTrue(finer_by_grid(one, joint(one, other)))
            self.assertTrue(finer_by_grid(other, joint(one, other)))


class Common(Bounds):
    def test_with_itself_and_with_one_cell(self):
        parts = [cell[:4] for cell in PINWHEEL[2]]
        self.tells(common, bare(3, 3, parts), PINWHEEL, PINWHEEL)
        self.tells(common, bare(3, 3, parts), PINWHEEL, one_cell(3, 3, "x"))
        self.tells(common, one_cell(16, 16), one_cell(16, 16, "x"), one_cell(16, 16, "y"))

    def test_with_the_finest(self):
        self.tells(common, empty(3, 3), PINWHEEL, empty(3, 3))
        self.tells(common, empty(16, 16), one_cell(16, 16, "x"), empty(16, 16))

    def test_rows_and_columns(self):
        rows = worded(3, 3, [(0, 0, 1, 3), (1, 0, 2, 3)])
        self.tells(common, bare(3, 3, [(0, 0, 1, 1), (0, 1, 1, 2), (1, 0, 2, 1), (1, 1, 2, 2)]), rows, turned(rows))

    def test_cells_in_order(self):
        one = worded(2, 4, [(0, 0, 2, 2), (0, 2, 2, 2)])
        other = worded(2, 4, [(0, 0, 1, 4), (1, 0, 1, 3), (1, 3, 1, 1)])
        parts = [(0, 0, 1, 2), (0, 2, 1, 2), (1, 0, 1, 2), (1, 2, 1, 1), (1, 3, 1, 1)]
        self.tells(common, bare(2, 4, parts), one, other)

    def test_two_cells_that_meet_in_one_place(self):
        one = worded(3, 3, [(0, 0, 2, 2), (0, 2, 1, 1), (1, 2, 1, 1), (2, 0, 1, 1), (2, 1, 1, 1), (2, 2, 1, 1)])
        other = worded(3, 3, [(0, 0, 1, 1), (0, 1, 1, 1), (0, 2, 1, 1), (1, 0, 1, 1), (1, 1, 2, 2), (2, 0, 1, 1)])
        self.tells(common, empty(3, 3), one, other)
        self.tells(joint, one_cell(3, 3), one, other)

    def test_large_tables(self):
        for one, other in pairs_of_large_tables():
            self.tells(common, common_by_grid(one, other), one, other)
            self.assertTrue(finer_by_grid(common(one, other), one))
            self.assertTrue(finer_by_grid(common(one, other), other))


class AgainstEveryTable(unittest.TestCase):
    """Among all tables of as many rows and columns the finest one above both, and the coarsest below both."""

    def test_small_tables(self):
        for rows, columns in SIDES:
            tables = [bare(rows, columns, parts) for parts in tilings(rows, columns)]
            pairs = [pairs_in_cells(table) for table in tables]
            above = [[one <= other for other in pairs] for one in pairs]
            below = [list(row) for row in zip(*above)]
            step = 1 + len(tables) // 20
            for at, one in enumerate(tables):
                for to in range(at % step, len(tables), step):
                    self.is_end(joint(one, tables[to]), tables, above, at, to)
                    self.is_end(common(one, tables[to]), tables, below, at, to)

    def is_end(self, told, tables, towards, at, to):
        """What is told lies that way from both, and each table that does so lies that way from it."""
        both = [first and second for first, second in zip(towards[at], towards[to])]
        self.assertIn(told, tables)
        self.assertEqual(towards[tables.index(told)], both)

    def test_told_afresh(self):
        for rows, columns in SIDES:
            tables = [worded(rows, columns, parts) for parts in tilings(rows, columns)]
            for one, other in zip(tables[::3], tables[::-1][::3]):
                for call in (is_finer, joint, common):
                    told_afresh(self, call, one, other)


if __name__ == "__main__":
    unittest.main()

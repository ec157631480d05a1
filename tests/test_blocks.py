import unittest

from gridframe.blocks import beside, cut_out, joined, parted
from gridframe.errors import Crossing, TooBig
from gridframe.tables import checked, empty, with_words
from tests.helper import PINWHEEL, by_grid, grid_of, large_tables, refused, renamed, small_tables, table_of, told_afresh

MIXED = (3, 4, [
    (0, 0, 2, 2, ("big", "cell")),
    (0, 2, 1, 2, ("wide",)),
    (1, 2, 1, 1, ()),
    (1, 3, 2, 1, ("tall",)),
    (2, 0, 1, 1, ("a",)),
    (2, 1, 1, 2, ("b", "c")),
])


def blocks_of(table):
    """Every block of a table."""
    rows, columns, _ = table
    return [
        (top, left, height, width)
        for top in range(rows) for left in range(columns)
        for height in range(1, rows - top + 1) for width in range(1, columns - left + 1)
    ]


def some_blocks_of(table):
    """Blocks at the corners and within a large table."""
    rows, columns, _ = table
    sides = [(first, many) for first in (0, rows // 3, rows - 1) for many in (1, rows // 2, rows - first)]
    across = [(first, many) for first in (0, columns // 3, columns - 1) for many in (1, columns // 2, columns - first)]
    return [
        (top, left, height, width)
        for top, height in sides for left, width in across
        if 0 < height <= rows - top and 0 < width <= columns - left
    ]


def names_within(grid, block):
    top, left, height, width = block
    return [names[left:left + width] for names in grid[top:top + height]]


def first_crossing(table, block):
    """The first cell some of whose places are in the block and some are not, else None."""
    grid, words = grid_of(table)
    everywhere = sum(grid, [])
    inside = sum(names_within(grid, block), [])
    for name in sorted(words):
        if 0 < inside.count(name) < everywhere.count(name):
            return name
    return None


def joined_by_grid(table, block):
    grid, words = grid_of(table)
    inside = sorted(set(sum(names_within(grid, block), [])))
    words["block"] = sum((words[name] for name in inside), ())
    changed = [["block" if name in inside else name for name in names] for names in grid]
    return table_of(changed, words)


def parted_by_grid(table, row, column):
    grid, words = grid_of(table)
    name = grid[row][column]
    changed = [
        [(r, c) if held == name else held for c, held in enumerate(names)] for r, names in enumerate(grid)
    ]
    words[table[2][name][:2]] = words[name]
    return table_of(changed, words)


class Blocks(unittest.TestCase):
    def crosses(self, call, table, block, at):
        self.assertEqual(refused(self, Crossing, call, table, *block).at, at)

    def tells(self, expected, call, *given):
        told = told_afresh(self, call, *given)
        self.assertEqual(told, expected)
        self.assertEqual(checked(told), expected)


class Joined(Blocks):
    def test_one_place(self):
        self.tells(MIXED, joined, MIXED, 1, 2, 1, 1)
        self.tells(MIXED, joined, MIXED, 2, 0, 1, 1)
        self.tells(empty(1, 1), joined, empty(1, 1), 0, 0, 1, 1)

    def test_one_cell(self):
        for cell in MIXED[2]:
            self.tells(MIXED, joined, MIXED, *cell[:4])

    def test_whole_rows(self):
        self.tells((3, 4, [
            (0, 0, 1, 4, ()), (1, 0, 2, 4, ()),
        ]), joined, (3, 4, [(0, 0, 1, 4, ())] + empty(3, 4)[2][4:]), 1, 0, 2, 4)
        self.tells((2, 2, [(0, 0, 1, 1, ("x",)), (0, 1, 1, 1, ()), (1, 0, 1, 2, ("y", "z"))]), joined, (2, 2, [
            (0, 0, 1, 1, ("x",)), (0, 1, 1, 1, ()), (1, 0, 1, 1, ("y",)), (1, 1, 1, 1, ("z",)),
        ]), 1, 0, 1, 2)

    def test_the_whole_table(self):
        self.tells((3, 4, [(0, 0, 3, 4, ("big", "cell", "wide", "tall", "a", "b", "c"))]), joined, MIXED, 0, 0, 3, 4)
        self.tells((3, 3, [(0, 0, 3, 3, ("a", "b", "c", "d", "e"))]), joined, PINWHEEL, 0, 0, 3, 3)
        self.tells((16, 16, [(0, 0, 16, 16, ())]), joined, empty(16, 16), 0, 0, 16, 16)

    def test_the_words_stand_cell_by_cell_in_order(self):
        self.tells((3, 4, [
            (0, 0, 2, 4, ("big", "cell", "wide", "x")), (2, 0, 1, 1, ("a",)), (2, 1, 1, 2, ("b", "c")), (2, 3, 1, 1, ()),
        ]), joined, (3, 4, [
            (0, 0, 2, 2, ("big", "cell")), (0, 2, 1, 2, ("wide",)), (1, 2, 1, 1, ()), (1, 3, 1, 1, ("x",)),
            (2, 0, 1, 1, ("a",)), (2, 1, 1, 2, ("b", "c")), (2, 3, 1, 1, ()),
        ]), 0, 0, 2, 4)
        # A cell that begins further up goes ahead, also where it lies further right and reaches further down.
        table = (2, 2, [(0, 0, 1, 1, ("a",)), (0, 1, 2, 1, ("z", "z")), (1, 0, 1, 1, ("b",))])
        self.tells((2, 2, [(0, 0, 2, 2, ("a", "z", "z", "b"))]), joined, table, 0, 0, 2, 2)

    def test_the_new_cell_stands_in_order(self):
        told = joined(empty(3, 3), 1, 1, 2, 2)
        self.assertEqual(told, (3, 3, empty(3, 3)[2][:4] + [(1, 1, 2, 2, ()), (2, 0, 1, 1, ())]))

    def test_twelve_words_and_thirteen(self):
        table = with_words(with_words(empty(2, 3), 0, 0, ("a",) * 6), 1, 1, ("b",) * 6)
        self.assertEqual(told_afresh(self, joined, table, 0, 0, 2, 2)[2][0], (0, 0, 2, 2, ("a",) * 6 + ("b",) * 6))
        more = with_words(table, 0, 1, ("c",))
        refused(self, TooBig, joined, more, 0, 0, 2, 2)
        refused(self, TooBig, joined, more, 0, 0, 2, 3)
        self.assertEqual(joined(more, 0, 0, 1, 2)[2][0], (0, 0, 1, 2, ("a",) * 6 + ("c",)))
        full = (1, 2, [(0, 0, 1, 1, ("a",) * 12), (0, 1, 1, 1, ())])
        self.tells((1, 2, [(0, 0, 1, 2, ("a",) * 12)]), joined, full, 0, 0, 1, 2)
        refused(self, TooBig, joined, with_words(full, 0, 1, ("b",) * 12), 0, 0, 1, 2)

    def test_words_outside_the_block_do_not_count(self):
        table = (1, 3, [(0, column, 1, 1, ("a",) * 6) for column in range(3)])
        self.assertEqual(joined(table, 0, 0, 1, 2)[2][0][4], ("a",) * 12)
        self.assertEqual(joined(table, 0, 1, 1, 2)[2][1][4], ("a",) * 12)
        refused(self, TooBig, joined, table, 0, 0, 1, 3)

    def test_a_cell_partly_in_the_block(self):
        self.crosses(joined, MIXED, (0, 0, 1, 1), 0)
        self.crosses(joined, MIXED, (2, 2, 1, 2), 3)
        self.crosses(joined, MIXED, (2, 2, 1, 1), 5)
        self.crosses(joined, (1, 2, [(0, 0, 1, 2, ())]), (0, 1, 1, 1), 0)
        self.crosses(joined, (2, 1, [(0, 0, 2, 1, ())]), (1, 0, 1, 1), 0)
        self.crosses(joined, (3, 3, [(0, 0, 3, 3, ())]), (1, 1, 1, 1), 0)

    def test_the_first_of_several(self):
        self.crosses(joined, MIXED, (1, 1, 1, 3), 0)
        self.crosses(joined, MIXED, (0, 2, 2, 2), 3)
        self.crosses(joined, MIXED, (2, 0, 1, 2), 5)
        self.crosses(joined, MIXED, (1, 2, 2, 2), 5)
        self.crosses(joined, PINWHEEL, (1, 1, 2, 2), 1)
        self.crosses(joined, PINWHEEL, (0, 0, 2, 2), 2)

    def test_crossing_is_asked_first(self):
        table = (2, 3, [
            (0, 0, 1, 1, ("a",) * 12), (0, 1, 1, 1, ("b",) * 12), (0, 2, 2, 1, ("c",)), (1, 0, 1, 2, ()),
        ])
        self.crosses(joined, table, (0, 0, 1, 3), 2)
        refused(self, TooBig, joined, table, 0, 0, 2, 3)
        refused(self, TooBig, joined, table, 0, 0, 1, 2)

    def test_every_block_of_every_small_table(self):
        for table in small_tables():
            for block in blocks_of(table):
                at = first_crossing(table, block)
                if at is None:
                    self.tells(joined_by_grid(table, block), joined, table, *block)
                else:
                    self.crosses(joined, table, block, at)

    def test_large_tables(self):
        for table in large_tables():
            for block in some_blocks_of(table):
                at = first_crossing(table, block)
                if at is not None:
                    self.crosses(joined, table, block, at)
                    continue
                expected = joined_by_grid(table, block)
                if max(len(cell[4]) for cell in expected[2]) > 12:
                    refused(self, TooBig, joined, table, *block)
                else:
                    self.tells(expected, joined, table, *block)


class Parted(Blocks):
    def test_one_place(self):
        self.tells(MIXED, parted, MIXED, 1, 2)
        self.tells(MIXED, parted, MIXED, 2, 0)
        self.tells((1, 1, [(0, 0, 1, 1, ("x",))]), parted, (1, 1, [(0, 0, 1, 1, ("x",))]), 0, 0)

    def test_several_rows(self):
        expected = (3, 4, MIXED[2][:3] + [(1, 3, 1, 1, ("tall",))] + MIXED[2][4:] + [(2, 3, 1, 1, ())])
        for row in (1, 2):
            self.tells(expected, parted, MIXED, row, 3)

    def test_several_columns(self):
        expected = (3, 4, MIXED[2][:5] + [(2, 1, 1, 1, ("b", "c")), (2, 2, 1, 1, ())])
        for column in (1, 2):
            self.tells(expected, parted, MIXED, 2, column)

    def test_several_rows_and_columns(self):
        expected = (3, 4, [
            (0, 0, 1, 1, ("big", "cell")), (0, 1, 1, 1, ()), (0, 2, 1, 2, ("wide",)),
            (1, 0, 1, 1, ()), (1, 1, 1, 1, ()), (1, 2, 1, 1, ()),
        ] + MIXED[2][3:])
        for row in (0, 1):
            for column in (0, 1):
                self.tells(expected, parted, MIXED, row, column)

    def test_the_greatest(self):
        words = ("a",) * 12
        for row, column in ((0, 0), (7, 9), (15, 15)):
            self.tells(with_words(empty(16, 16), 0, 0, words), parted, (16, 16, [(0, 0, 16, 16, words)]), row, column)

    def test_every_place_of_every_small_table(self):
        for table in small_tables():
            for row in range(table[0]):
                for column in range(table[1]):
                    self.tells(parted_by_grid(table, row, column), parted, table, row, column)

    def test_large_tables(self):
        for table in large_tables():
            for cell in table[2]:
                row, column = cell[0] + cell[2] - 1, cell[1] + cell[3] - 1
                self.tells(parted_by_grid(table, row, column), parted, table, row, column)


class CutOut(Blocks):
    def test_at_the_corners(self):
        self.tells((2, 2, [(0, 0, 2, 2, ("big", "cell"))]), cut_out, MIXED, 0, 0, 2, 2)
        self.tells((1, 2, [(0, 0, 1, 2, ("wide",))]), cut_out, MIXED, 0, 2, 1, 2)
        self.tells((1, 3, [(0, 0, 1, 1, ("a",)), (0, 1, 1, 2, ("b", "c"))]), cut_out, MIXED, 2, 0, 1, 3)
        self.tells((2, 1, [(0, 0, 2, 1, ("tall",))]), cut_out, MIXED, 1, 3, 2, 1)

    def test_within(self):
        self.tells((1, 1, [(0, 0, 1, 1, ("d",))]), cut_out, PINWHEEL, 1, 1, 1, 1)
        table = (4, 4, empty(4, 4)[2][:5] + [
            (1, 1, 1, 2, ("x",)), (1, 3, 1, 1, ()), (2, 0, 1, 1, ()), (2, 1, 1, 1, ("y",)), (2, 2, 1, 1, ("z",)),
        ] + empty(4, 4)[2][11:])
        self.tells(
            (2, 2, [(0, 0, 1, 2, ("x",)), (1, 0, 1, 1, ("y",)), (1, 1, 1, 1, ("z",))]), cut_out, table, 1, 1, 2, 2,
        )

    def test_the_whole_table(self):
        for table in (MIXED, PINWHEEL, empty(16, 16), empty(1, 1)):
            self.tells(table, cut_out, table, 0, 0, table[0], table[1])

    def test_words_are_not_counted(self):
        table = (1, 3, [(0, column, 1, 1, ("a",) * 12) for column in range(3)])
        self.tells((1, 2, table[2][:2]), cut_out, table, 0, 1, 1, 2)

    def test_a_cell_partly_in_the_block(self):
        self.crosses(cut_out, MIXED, (0, 0, 1, 1), 0)
        self.crosses(cut_out, MIXED, (1, 1, 1, 3), 0)
        self.crosses(cut_out, MIXED, (0, 2, 2, 2), 3)
        self.crosses(cut_out, MIXED, (2, 0, 1, 2), 5)
        self.crosses(cut_out, PINWHEEL, (1, 1, 2, 2), 1)
        self.crosses(cut_out, (3, 3, [(0, 0, 3, 3, ())]), (1, 1, 1, 1), 0)

    def test_every_block_of_every_table(self):
        pairs = [(table, block) for table in small_tables() for block in blocks_of(table)]
        pairs += [(table, block) for table in large_tables() for block in some_blocks_of(table)]
        for table, block in pairs:
            at = first_crossing(table, block)
            if at is None:
                self.tells(by_grid(table, lambda grid: names_within(grid, block)), cut_out, table, *block)
            else:
                self.crosses(cut_out, table, block, at)


class Beside(Blocks):
    def test_cells_in_order(self):
        one = (2, 2, [(0, 0, 2, 1, ("a",)), (0, 1, 1, 1, ()), (1, 1, 1, 1, ("b",))])
        other = (2, 1, [(0, 0, 1, 1, ("c",)), (1, 0, 1, 1, ("d", "e"))])
        self.tells((2, 3, [
            (0, 0, 2, 1, ("a",)), (0, 1, 1, 1, ()), (0, 2, 1, 1, ("c",)), (1, 1, 1, 1, ("b",)), (1, 2, 1, 1, ("d", "e")),
        ]), beside, one, other)
        self.tells((2, 3, [
            (0, 0, 1, 1, ("c",)), (0, 1, 2, 1, ("a",)), (0, 2, 1, 1, ()), (1, 0, 1, 1, ("d", "e")), (1, 2, 1, 1, ("b",)),
        ]), beside, other, one)

    def test_small_tables(self):
        tables = small_tables()[::5]
        for one in tables:
            for other in tables:
                if one[0] == other[0]:
                    self.is_beside(one, other)

    def test_large_tables(self):
        tables = large_tables()
        for one in tables:
            for other in tables:
                if one[0] == other[0]:
                    self.is_beside(one, other)

    def is_beside(self, one, other):
        if one[1] + other[1] > 16:
            refused(self, TooBig, beside, one, other)
            return
        left, words = renamed(*grid_of(one), "one")
        right, more = renamed(*grid_of(other), "other")
        self.tells(table_of([a + b for a, b in zip(left, right)], {**words, **more}), beside, one, other)
        told = beside(one, other)
        self.assertEqual(cut_out(told, 0, 0, one[0], one[1]), one)
        self.assertEqual(cut_out(told, 0, one[1], other[0], other[1]), other)

    def test_the_same_table_twice(self):
        self.tells(empty(2, 4), beside, *[empty(2, 2)] * 2)

    def test_sixteen_columns_and_seventeen(self):
        for first in (1, 7, 8, 15):
            self.tells(empty(3, 16), beside, empty(3, first), empty(3, 16 - first))
            refused(self, TooBig, beside, empty(3, first), empty(3, 17 - first))
        refused(self, TooBig, beside, empty(1, 16), empty(1, 1))
        refused(self, TooBig, beside, empty(1, 1), empty(1, 16))
        refused(self, TooBig, beside, empty(16, 16), empty(16, 16))
        refused(self, TooBig, beside, (1, 9, [(0, 0, 1, 9, ())]), (1, 8, [(0, 0, 1, 8, ())]))

    def test_rows_are_not_counted(self):
        self.tells(empty(16, 2), beside, empty(16, 1), empty(16, 1))


if __name__ == "__main__":
    unittest.main()

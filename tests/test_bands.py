import unittest

from gridframe.bands import bands, ordered, tight
from gridframe.blocks import cut_out, joined
from gridframe.tables import checked, empty, with_words
from tests.helper import PINWHEEL, bands_by_grid, by_grid, grid_of, large_tables, small_tables, table_of, told_afresh

# Bands of 2, 1 and 2 rows.
BANDED = (5, 2, [
    (0, 0, 2, 1, ("m",)), (0, 1, 1, 1, ("x",)), (1, 1, 1, 1, ("c",)),
    (2, 0, 1, 2, ("b", "b")),
    (3, 0, 1, 1, ("b",)), (3, 1, 2, 1, ("a", "z")), (4, 0, 1, 1, ("q",)),
])


def column_of(held):
    """A table of one column, a row for each tuple of words."""
    return (len(held), 1, [(row, 0, 1, 1, words) for row, words in enumerate(held)])


def words_of(table):
    return [cell[4] for cell in table[2]]


def ordered_by_grid(table, column):
    grid, words = grid_of(table)
    waiting = bands_by_grid(grid)
    changed = []
    while waiting:
        # The first of the least is taken each time, so those alike keep their order.
        least = min(words[grid[first][column]] for first, _ in waiting)
        at = [words[grid[first][column]] for first, _ in waiting].index(least)
        first, behind = waiting.pop(at)
        changed += grid[first:behind]
    return table_of(changed, words)


def tight_by_grid(grid):
    """Rows, then columns, that are alike place by place are one."""
    for _ in range(2):
        grid = [names for row, names in enumerate(grid) if row == 0 or names != grid[row - 1]]
        grid = [list(names) for names in zip(*grid)]
    return grid


def stretched(table, tall, wide):
    """Each row so many rows, each column so many columns, by two lists."""
    def change(grid):
        rows = [names for names, many in zip(grid, tall) for _ in range(many)]
        return [[name for name, many in zip(names, wide) for _ in range(many)] for names in rows]
    return by_grid(table, change)


class Bands(unittest.TestCase):
    def tells(self, table, expected):
        self.assertEqual(told_afresh(self, bands, table), expected)

    def test_no_line_is_open(self):
        self.tells(PINWHEEL, [(0, 3)])
        self.tells((4, 1, [(0, 0, 4, 1, ())]), [(0, 4)])
        self.tells((2, 2, [(0, 0, 2, 1, ()), (0, 1, 1, 1, ()), (1, 1, 1, 1, ())]), [(0, 2)])
        self.tells((16, 16, [(0, 0, 16, 16, ())]), [(0, 16)])

    def test_one_row(self):
        self.tells(empty(1, 1), [(0, 1)])
        self.tells(empty(1, 16), [(0, 1)])
        self.tells((1, 3, [(0, 0, 1, 3, ())]), [(0, 1)])

    def test_all_lines_are_open(self):
        self.tells(empty(16, 3), [(row, row + 1) for row in range(16)])
        self.tells((2, 2, [(0, 0, 1, 2, ()), (1, 0, 1, 2, ())]), [(0, 1), (1, 2)])

    def test_some_lines_are_open(self):
        self.tells(BANDED, [(0, 2), (2, 3), (3, 5)])
        self.tells((3, 1, [(0, 0, 1, 1, ()), (1, 0, 2, 1, ())]), [(0, 1), (1, 3)])
        self.tells((3, 1, [(0, 0, 2, 1, ()), (2, 0, 1, 1, ())]), [(0, 2), (2, 3)])
        # Cells that overlap in rows hold a band together, though none spans all of it.
        self.tells((4, 2, [
            (0, 0, 2, 1, ()), (0, 1, 1, 1, ()), (1, 1, 2, 1, ()), (2, 0, 1, 1, ()), (3, 0, 1, 1, ()), (3, 1, 1, 1, ()),
        ]), [(0, 3), (3, 4)])

    def test_every_table(self):
        for table in small_tables() + large_tables():
            told = told_afresh(self, bands, table)
            self.assertEqual(told, bands_by_grid(grid_of(table)[0]))
            self.assertEqual([band[0] for band in told] + [table[0]], [0] + [band[1] for band in told])
            for band in told:
                self.assertIs(type(band), tuple)


class Ordered(unittest.TestCase):
    def tells(self, table, column, expected):
        told = told_afresh(self, ordered, table, column)
        self.assertEqual(told, expected)
        self.assertEqual(checked(told), expected)

    def test_bands_of_several_rows(self):
        self.tells(BANDED, 0, (5, 2, [
            (0, 0, 1, 1, ("b",)), (0, 1, 2, 1, ("a", "z")), (1, 0, 1, 1, ("q",)),
            (2, 0, 1, 2, ("b", "b")),
            (3, 0, 2, 1, ("m",)), (3, 1, 1, 1, ("x",)), (4, 1, 1, 1, ("c",)),
        ]))

    def test_by_another_column(self):
        self.tells(BANDED, 1, (5, 2, [
            (0, 0, 1, 1, ("b",)), (0, 1, 2, 1, ("a", "z")), (1, 0, 1, 1, ("q",)),
            (2, 0, 1, 2, ("b", "b")),
            (3, 0, 2, 1, ("m",)), (3, 1, 1, 1, ("x",)), (4, 1, 1, 1, ("c",)),
        ]))
        table = (2, 2, [(0, 0, 1, 1, ("a",)), (0, 1, 1, 1, ("b",)), (1, 0, 1, 1, ("b",)), (1, 1, 1, 1, ("a",))])
        self.tells(table, 0, table)
        self.tells(table, 1, (2, 2, [
            (0, 0, 1, 1, ("b",)), (0, 1, 1, 1, ("a",)), (1, 0, 1, 1, ("a",)), (1, 1, 1, 1, ("b",)),
        ]))

    def test_only_the_first_row_of_a_band_is_asked(self):
        table = (3, 2, [
            (0, 0, 2, 1, ()), (0, 1, 1, 1, ("z",)), (1, 1, 1, 1, ("a",)), (2, 0, 1, 1, ()), (2, 1, 1, 1, ("m",)),
        ])
        self.tells(table, 1, (3, 2, [
            (0, 0, 1, 1, ()), (0, 1, 1, 1, ("m",)), (1, 0, 2, 1, ()), (1, 1, 1, 1, ("z",)), (2, 1, 1, 1, ("a",)),
        ]))

    def test_words_alike_stay_in_order(self):
        table = (4, 2, [
            (row, column, 1, 1, (word,))
            for row, words in enumerate((("b", "1"), ("a", "2"), ("b", "3"), ("a", "4")))
            for column, word in enumerate(words)
        ])
        told = told_afresh(self, ordered, table, 0)
        self.assertEqual([cell[4][0] for cell in told[2]], ["a", "2", "a", "4", "b", "1", "b", "3"])
        self.tells(empty(16, 2), 1, empty(16, 2))

    def test_no_words_go_ahead_and_longer_ones_behind(self):
        table = column_of([("a", "b"), ("a",), (), ("a", "a", "z"), ("b",), (), ("a",)])
        told = told_afresh(self, ordered, table, 0)
        self.assertEqual(words_of(told), [(), (), ("a",), ("a",), ("a", "a", "z"), ("a", "b"), ("b",)])

    def test_words_are_compared_as_python_does(self):
        table = column_of([("z",), ("aa",), ("a", "b"), ("10",), ("9",), ("b", "a"), ("ab", "a"), ("0", "z"), ("a",)])
        told = told_afresh(self, ordered, table, 0)
        self.assertEqual(words_of(told), [
            ("0", "z"), ("10",), ("9",), ("a",), ("a", "b"), ("aa",), ("ab", "a"), ("b", "a"), ("z",),
        ])

    def test_a_cell_that_spans_columns_counts_in_each(self):
        table = (2, 3, [(0, 0, 1, 1, ("a",)), (0, 1, 1, 2, ("z",)), (1, 0, 1, 2, ("b",)), (1, 2, 1, 1, ("c",))])
        swapped = (2, 3, [(0, 0, 1, 2, ("b",)), (0, 2, 1, 1, ("c",)), (1, 0, 1, 1, ("a",)), (1, 1, 1, 2, ("z",))])
        self.tells(table, 0, table)
        self.tells(table, 1, swapped)
        self.tells(table, 2, swapped)

    def test_one_band(self):
        for column in range(3):
            self.tells(PINWHEEL, column, PINWHEEL)

    def test_every_column_of_every_table(self):
        for table in small_tables() + large_tables():
            for column in range(table[1]):
                self.tells(table, column, ordered_by_grid(table, column))

    def test_words_that_fall_from_row_to_row(self):
        for table in small_tables():
            count = len(table[2])
            falling = (table[0], table[1], [cell[:4] + ((f"w{count - at}",),) for at, cell in enumerate(table[2])])
            for column in range(table[1]):
                self.tells(falling, column, ordered_by_grid(falling, column))

    def test_sixteen_rows(self):
        table = column_of([(f"w{99 - row}",) for row in range(16)])
        self.tells(table, 0, column_of([(f"w{84 + row}",) for row in range(16)]))


class Tight(unittest.TestCase):
    def tells(self, table, expected):
        told = told_afresh(self, tight, table)
        self.assertEqual(told, expected)
        self.assertEqual(checked(told), expected)
        self.assertEqual(told_afresh(self, tight, told), expected)

    def test_no_idle_line(self):
        for table in (PINWHEEL, BANDED, empty(1, 1), empty(16, 16), empty(1, 16), empty(16, 1)):
            self.tells(table, table)

    def test_idle_lines_between_rows(self):
        self.tells((2, 2, [(0, 0, 2, 1, ("a",)), (0, 1, 2, 1, ("b",))]), (1, 2, [
            (0, 0, 1, 1, ("a",)), (0, 1, 1, 1, ("b",)),
        ]))
        self.tells((3, 2, [(0, 0, 3, 1, ("a",)), (0, 1, 2, 1, ("b",)), (2, 1, 1, 1, ())]), (2, 2, [
            (0, 0, 2, 1, ("a",)), (0, 1, 1, 1, ("b",)), (1, 1, 1, 1, ()),
        ]))

    def test_idle_lines_between_columns(self):
        self.tells((2, 2, [(0, 0, 1, 2, ("a",)), (1, 0, 1, 2, ("b",))]), (2, 1, [
            (0, 0, 1, 1, ("a",)), (1, 0, 1, 1, ("b",)),
        ]))
        self.tells((2, 3, [(0, 0, 1, 3, ("a",)), (1, 0, 1, 1, ("b",)), (1, 1, 1, 2, ())]), (2, 2, [
            (0, 0, 1, 2, ("a",)), (1, 0, 1, 1, ("b",)), (1, 1, 1, 1, ()),
        ]))

    def test_a_line_that_is_neither_open_nor_idle_stays(self):
        table = (2, 2, [(0, 0, 2, 1, ()), (0, 1, 1, 1, ()), (1, 1, 1, 1, ())])
        self.tells(table, table)

    def test_several_side_by_side_and_both_ways(self):
        for tall, wide in (([1, 3, 1], [1, 1, 1]), ([1, 1, 1], [4, 1, 2]), ([5, 1, 6], [2, 9, 5]), ([2, 2, 2], [3] * 3)):
            self.tells(stretched(PINWHEEL, tall, wide), PINWHEEL)
        self.tells(stretched(BANDED, [3, 1, 4, 2, 6], [8, 8]), BANDED)

    def test_one_cell(self):
        self.tells((16, 16, [(0, 0, 16, 16, ("x", "y"))]), (1, 1, [(0, 0, 1, 1, ("x", "y"))]))
        self.tells((1, 16, [(0, 0, 1, 16, ())]), empty(1, 1))
        self.tells((16, 1, [(0, 0, 16, 1, ())]), empty(1, 1))

    def test_every_table(self):
        for table in small_tables() + large_tables():
            self.tells(table, by_grid(table, tight_by_grid))

    def test_every_small_table_stretched(self):
        for table in small_tables():
            plain = tight(table)
            for tall, wide in (([1, 2, 1], [3, 1, 1]), ([2, 1, 4], [1, 2, 2])):
                self.tells(stretched(table, tall, wide), plain)

    def test_joined_bands_made_tight(self):
        table = with_words(empty(4, 3), 3, 2, ("end",))
        for row in (0, 2):
            table = joined(table, row, 0, 2, 3)
        self.tells(table, (2, 1, [(0, 0, 1, 1, ()), (1, 0, 1, 1, ("end",))]))
        self.assertEqual(tight(cut_out(table, 0, 0, 2, 3)), empty(1, 1))


if __name__ == "__main__":
    unittest.main()

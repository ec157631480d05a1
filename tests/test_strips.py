import unittest

from gridframe.bands import bands
from gridframe.cuts import below
from gridframe.errors import GridError, TooTall
from gridframe.strips import put_together, strips
from gridframe.tables import checked, empty
from tests.helper import (
    PINWHEEL, bands_by_grid, grid_of, large_tables, one_cell, refused, small_tables, table_of, told_afresh,
)


def column_of(*heights):
    """A table of one column, a band for each height, with a word of its own in each."""
    table = one_cell(heights[0], 1, "w0")
    for at, height in enumerate(heights[1:], start=1):
        table = below(table, one_cell(height, 1, f"w{at}"))
    return table


def names_of(table):
    return [word for cell in table[2] for word in cell[4]]


def strips_by_grid(table, head, room):
    """The grids of the strips, or the number of the first band for which there is no room."""
    grid, words = grid_of(table)
    parts = [grid[first:behind] for first, behind in bands_by_grid(grid)]
    top = sum(parts[:head], [])
    for at in range(head, len(parts)):
        if len(top + parts[at]) > room:
            return at
    told = []
    ahead = head
    while ahead < len(parts):
        behind = max(end for end in range(ahead + 1, len(parts) + 1) if len(top + sum(parts[ahead:end], [])) <= room)
        told.append(table_of(top + sum(parts[ahead:behind], []), words))
        ahead = behind
    return told


class Cutting(unittest.TestCase):
    def tells(self, expected, table, head, room):
        told = told_afresh(self, strips, table, head, room)
        self.assertEqual(told, expected)
        for strip in told:
            self.assertEqual(checked(strip), strip)
            self.assertLessEqual(strip[0], room)
        self.assertEqual(told_afresh(self, put_together, told, head), table)

    def names(self, expected, table, head, room):
        told = strips(table, head, room)
        self.assertEqual([names_of(strip) for strip in told], expected)
        self.tells(strips_by_grid(table, head, room), table, head, room)

    def refuses(self, at, table, head, room):
        error = refused(self, TooTall, strips, table, head, room)
        self.assertEqual(error.at, at)
        self.assertNotIsInstance(error.at, bool)
        self.assertIsInstance(error, GridError)


class Strips(Cutting):
    def test_no_head(self):
        self.names([["w0", "w1"], ["w2", "w3"], ["w4"]], column_of(1, 1, 1, 1, 1), 0, 2)
        self.tells([one_cell(1, 1, "w0"), one_cell(1, 1, "w1")], column_of(1, 1), 0, 1)

    def test_a_head_of_one_band(self):
        self.names([["w0", "w1", "w2"], ["w0", "w3", "w4"]], column_of(1, 1, 1, 1, 1), 1, 3)
        self.tells([
            (3, 1, [(0, 0, 2, 1, ("w0",)), (2, 0, 1, 1, ("w1",))]),
            (3, 1, [(0, 0, 2, 1, ("w0",)), (2, 0, 1, 1, ("w2",))]),
        ], column_of(2, 1, 1), 1, 3)

    def test_a_head_of_several_bands(self):
        self.names([["w0", "w1", "w2"], ["w0", "w1", "w3"]], column_of(1, 3, 2, 2), 2, 6)
        self.names([["w0", "w1", "w2", "w3"], ["w0", "w1", "w2", "w4"]], column_of(1, 1, 1, 1, 1), 3, 4)

    def test_a_head_of_all_bands_but_one(self):
        self.names([["w0", "w1", "w2"]], column_of(1, 2, 3), 2, 6)
        self.names([["w0", "w1"]], column_of(1, 1), 1, 2)
        self.refuses(2, column_of(1, 2, 3), 2, 5)

    def test_a_table_of_one_band(self):
        self.tells([one_cell(3, 2, "x")], one_cell(3, 2, "x"), 0, 3)
        self.refuses(0, one_cell(3, 2, "x"), 0, 2)
        self.tells([PINWHEEL], PINWHEEL, 0, 3)
        self.refuses(0, PINWHEEL, 0, 2)

    def test_room_that_is_just_enough_and_one_row_more_or_less(self):
        table = column_of(1, 2, 2, 2)
        self.refuses(1, table, 1, 2)
        self.names([["w0", "w1"], ["w0", "w2"], ["w0", "w3"]], table, 1, 3)
        self.names([["w0", "w1"], ["w0", "w2"], ["w0", "w3"]], table, 1, 4)
        self.names([["w0", "w1", "w2"], ["w0", "w3"]], table, 1, 5)
        self.names([["w0", "w1", "w2"], ["w0", "w3"]], table, 1, 6)
        self.names([["w0", "w1", "w2", "w3"]], table, 1, 7)
        self.names([["w0", "w1", "w2", "w3"]], table, 1, 8)
        self.names([["w0", "w1", "w2", "w3"]], table, 1, 40)

    def test_no_room_at_all(self):
        self.refuses(0, column_of(1, 1), 0, 0)
        self.refuses(1, column_of(1, 1), 1, 0)
        self.refuses(2, column_of(3, 3, 1), 2, 5)
        self.refuses(2, column_of(3, 3, 1), 2, 6)

    def test_as_many_of_the_next_bands_as_go(self):
        # The last band would go into the first strip, but it is not next.
        self.names([["w0"], ["w1"], ["w2"]], column_of(2, 3, 1), 0, 3)
        self.names([["w0", "w1"], ["w2"], ["w3", "w4"]], column_of(1, 2, 3, 2, 1), 0, 3)

    def test_bands_of_several_rows(self):
        table = below(below(empty(1, 3), PINWHEEL), PINWHEEL)
        self.tells([below(empty(1, 3), PINWHEEL), below(empty(1, 3), PINWHEEL)], table, 1, 4)
        self.tells([below(empty(1, 3), PINWHEEL), PINWHEEL], table, 0, 4)
        self.tells([table], table, 1, 7)
        self.tells([below(empty(1, 3), PINWHEEL), below(empty(1, 3), PINWHEEL)], table, 1, 6)

    def test_the_first_band_without_room(self):
        table = column_of(1, 1, 4, 2, 5, 3)
        self.refuses(2, table, 0, 3)
        self.refuses(4, table, 0, 4)
        self.refuses(2, table, 1, 4)
        self.refuses(4, table, 1, 5)
        self.refuses(2, table, 2, 3)
        self.refuses(4, table, 3, 10)
        self.refuses(3, table, 3, 7)

    def test_a_band_of_the_head_is_not_asked(self):
        # The head's own bands are never without room, however tall; only those behind it are named.
        self.refuses(1, column_of(5, 1, 1), 1, 5)
        self.names([["w0", "w1"], ["w0", "w2"]], column_of(5, 1, 1), 1, 6)

    def test_a_head_of_all_bands_is_not_refused(self):
        table = column_of(2, 1)
        for head in (2, 3):
            for room in (1, 3, 9):
                self.assertEqual(told_afresh(self, strips, table, head, room), [table])
                self.assertEqual(told_afresh(self, put_together, [table], head), table)


class ManyTables(Cutting):
    def test_small_tables(self):
        for table in small_tables()[::2]:
            for head in range(len(bands(table))):
                for room in range(table[0] + 2):
                    self.is_cut(table, head, room)

    def test_large_tables(self):
        for table in large_tables():
            many = len(bands(table))
            for head in sorted({0, 1, many // 2, many - 1}):
                if head < many:
                    for room in range(0, table[0] + 2, 2):
                        self.is_cut(table, head, room)

    def test_bands_of_all_heights(self):
        for one in range(1, 4):
            for two in range(1, 4):
                for three in range(1, 4):
                    for four in range(1, 4):
                        for head in range(4):
                            self.is_cut(column_of(one, two, three, four), head, 5)

    def is_cut(self, table, head, room):
        expected = strips_by_grid(table, head, room)
        if isinstance(expected, int):
            self.refuses(expected, table, head, room)
        else:
            self.tells(expected, table, head, room)


class PutTogether(unittest.TestCase):
    def tells(self, expected, some, head):
        told = told_afresh(self, put_together, some, head)
        self.assertEqual(told, expected)
        self.assertEqual(checked(told), expected)

    def test_a_single_strip(self):
        for head in range(3):
            self.tells(column_of(1, 2, 1), [column_of(1, 2, 1)], head)
        self.tells(PINWHEEL, [PINWHEEL], 0)

    def test_the_head_stands_once(self):
        head = one_cell(2, 3, "h")
        self.tells(below(below(head, PINWHEEL), empty(2, 3)), [below(head, PINWHEEL), below(head, empty(2, 3))], 1)

    def test_no_head(self):
        last = below(PINWHEEL, one_cell(1, 3, "x"))
        self.tells(below(PINWHEEL, last), [PINWHEEL, last], 0)

    def test_a_head_of_several_bands(self):
        head = below(below(one_cell(1, 1, "a"), one_cell(2, 1, "b")), one_cell(1, 1, "c"))
        some = [below(head, one_cell(at, 1, f"w{at}")) for at in (1, 2, 3)]
        told = below(below(below(head, one_cell(1, 1, "w1")), one_cell(2, 1, "w2")), one_cell(3, 1, "w3"))
        self.tells(told, some, 3)

    def test_sixteen_rows(self):
        self.tells(empty(16, 2), strips(empty(16, 2), 1, 2), 1)
        self.assertEqual(len(strips(empty(16, 2), 1, 2)), 15)

    def test_nothing_is_refused_somewhat_beyond(self):
        self.assertEqual(told_afresh(self, put_together, [empty(16, 2), empty(2, 2)], 1), empty(17, 2))
        self.assertEqual(told_afresh(self, strips, empty(17, 2), 1, 9), [empty(9, 2), empty(9, 2)])


if __name__ == "__main__":
    unittest.main()

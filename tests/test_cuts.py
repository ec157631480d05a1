import copy
import unittest

from gridframe.bands import bands
from gridframe.blocks import beside, cut_out
from gridframe.cuts import below, depth, grown, leaves, mirrored, tree
from gridframe.errors import TooBig
from gridframe.tables import checked, empty
from tests.helper import (
    PINWHEEL, bands_by_grid, by_grid, grid_of, large_tables, one_cell, refused, renamed, small_tables, table_of,
    told_afresh,
)

PINWHEEL_TREE = ("knot", 3, 3, PINWHEEL[2])
OTHER_WHEEL = (3, 3, [
    (0, 0, 2, 1, ("p",)), (0, 1, 1, 2, ("q",)), (1, 1, 1, 1, ()), (1, 2, 2, 1, ("r", "s")), (2, 0, 1, 2, ()),
])


def staircase(side):
    """A row off the top, a column off the left, and so on, until one place is left."""
    table = one_cell(1, 1, "end")
    for many in range(1, side):
        table = beside(one_cell(many, 1, f"left{many}"), table)
        table = below(one_cell(1, many + 1, f"top{many}"), table)
    return table


def cut_grid(grid):
    """The grids between the lines between rows that no name goes across."""
    return [grid[first:behind] for first, behind in bands_by_grid(grid)]


def grid_turned(grid):
    return [list(column) for column in zip(*grid)]


def tree_by_grid(grid, words):
    if len(set(sum(grid, []))) == 1:
        return ("cell", len(grid), len(grid[0]), words[grid[0][0]])
    parts = cut_grid(grid)
    if len(parts) > 1:
        return ("down", [tree_by_grid(part, words) for part in parts])
    parts = [grid_turned(part) for part in cut_grid(grid_turned(grid))]
    if len(parts) > 1:
        return ("across", [tree_by_grid(part, words) for part in parts])
    return ("knot",) + table_of(grid, words)


def trees_in(knot):
    """The tree and all trees within it, from the top, each with how far below the top it is."""
    found = [(knot, 0)]
    if knot[0] in ("down", "across"):
        for part in knot[1]:
            found += [(inner, down + 1) for inner, down in trees_in(part)]
    return found


class Trees(unittest.TestCase):
    def holds(self, table, expected=None):
        told = told_afresh(self, tree, table)
        self.assertEqual(told, tree_by_grid(*grid_of(table)))
        if expected is not None:
            self.assertEqual(told, expected)
        for inner, _ in trees_in(told):
            self.measured(inner)
        back = told_afresh(self, grown, told)
        self.assertEqual(back, table)
        self.assertEqual(checked(back), table)

    def measured(self, knot):
        all_of_it = trees_in(knot)
        ends = [inner for inner, _ in all_of_it if inner[0] in ("cell", "knot")]
        self.assertEqual(depth(knot), max(down for _, down in all_of_it))
        self.assertEqual(told_afresh(self, leaves, knot), ends)


class Shapes(Trees):
    def test_one_cell(self):
        self.holds(one_cell(1, 1), ("cell", 1, 1, ()))
        self.holds(one_cell(3, 2, "a", "b"), ("cell", 3, 2, ("a", "b")))
        self.holds(one_cell(16, 16, "x"), ("cell", 16, 16, ("x",)))

    def test_bands(self):
        self.holds(below(one_cell(2, 3, "a"), one_cell(1, 3)), ("down", [("cell", 2, 3, ("a",)), ("cell", 1, 3, ())]))
        self.holds(empty(16, 1), ("down", [("cell", 1, 1, ())] * 16))

    def test_columns(self):
        self.holds(beside(one_cell(3, 2, "a"), one_cell(3, 1)), ("across", [("cell", 3, 2, ("a",)), ("cell", 3, 1, ())]))
        self.holds(empty(1, 16), ("across", [("cell", 1, 1, ())] * 16))

    def test_rows_are_cut_ahead_of_columns(self):
        row = ("across", [("cell", 1, 1, ())] * 3)
        self.holds(empty(2, 3), ("down", [row, row]))

    def test_knots(self):
        self.holds(PINWHEEL, PINWHEEL_TREE)
        self.holds(OTHER_WHEEL, ("knot", 3, 3, OTHER_WHEEL[2]))

    def test_a_knot_with_an_idle_line(self):
        wide = (3, 4, [
            (0, 0, 1, 3, ("a",)), (0, 3, 2, 1, ("b",)), (1, 0, 2, 1, ("c",)), (1, 1, 1, 2, ("d",)), (2, 1, 1, 3, ("e",)),
        ])
        self.holds(wide, ("knot", 3, 4, wide[2]))

    def test_columns_within_bands(self):
        table = below(beside(one_cell(2, 1, "a"), one_cell(2, 2, "b")), one_cell(1, 3, "c"))
        self.holds(table, ("down", [
            ("across", [("cell", 2, 1, ("a",)), ("cell", 2, 2, ("b",))]), ("cell", 1, 3, ("c",)),
        ]))

    def test_bands_within_columns(self):
        table = beside(one_cell(3, 1, "a"), below(one_cell(1, 2, "b"), one_cell(2, 2, "c")))
        self.holds(table, ("across", [
            ("cell", 3, 1, ("a",)), ("down", [("cell", 1, 2, ("b",)), ("cell", 2, 2, ("c",))]),
        ]))

    def test_knots_within_bands_and_columns(self):
        self.holds(below(one_cell(1, 3, "h"), PINWHEEL), ("down", [("cell", 1, 3, ("h",)), PINWHEEL_TREE]))
        self.holds(beside(PINWHEEL, one_cell(3, 2)), ("across", [PINWHEEL_TREE, ("cell", 3, 2, ())]))
        self.holds(beside(PINWHEEL, OTHER_WHEEL), ("across", [PINWHEEL_TREE, ("knot", 3, 3, OTHER_WHEEL[2])]))
        table = beside(below(PINWHEEL, PINWHEEL), one_cell(6, 1, "side"))
        self.holds(table, ("across", [("down", [PINWHEEL_TREE, PINWHEEL_TREE]), ("cell", 6, 1, ("side",))]))

    def test_a_part_is_a_table_of_its_own(self):
        table = below(empty(2, 6), beside(one_cell(3, 3), PINWHEEL))
        self.assertEqual(tree(table)[1][2], ("across", [("cell", 3, 3, ()), PINWHEEL_TREE]))
        self.holds(table)

    def test_every_table(self):
        for table in small_tables() + large_tables():
            self.holds(table)

    def test_tables_put_together(self):
        tables = [table for table in small_tables() if table[0] == 3 and table[1] == 3][::20]
        for one in tables:
            for other in tables:
                self.holds(below(beside(one, other), beside(PINWHEEL, one)))

    def test_nothing_is_refused_somewhat_beyond(self):
        for table in (empty(17, 2), empty(2, 17), (17, 1, [(0, 0, 16, 1, ("a",)), (16, 0, 1, 1, ())])):
            self.assertEqual(grown(tree(table)), table)


class DepthAndLeaves(Trees):
    def test_a_cell_and_a_knot(self):
        for knot in (("cell", 2, 3, ("a",)), PINWHEEL_TREE):
            self.assertEqual(depth(knot), 0)
            self.assertEqual(told_afresh(self, leaves, knot), [knot])

    def test_the_greatest_depth_counts(self):
        cell = ("cell", 1, 1, ())
        flat = ("down", [cell, cell])
        self.assertEqual(depth(flat), 1)
        self.assertEqual(depth(("across", [("cell", 2, 1, ()), flat, ("cell", 2, 1, ())])), 2)
        self.assertEqual(depth(("across", [flat, ("cell", 2, 1, ())])), 2)
        self.assertEqual(depth(tree(empty(16, 16))), 2)

    def test_leaves_in_order(self):
        table = below(one_cell(1, 4, "a"), beside(below(one_cell(1, 1, "b"), one_cell(2, 1, "c")), PINWHEEL))
        self.assertEqual(told_afresh(self, leaves, tree(table)), [
            ("cell", 1, 4, ("a",)), ("cell", 1, 1, ("b",)), ("cell", 2, 1, ("c",)), PINWHEEL_TREE,
        ])

    def test_the_deepest(self):
        table = staircase(16)
        self.holds(table)
        self.assertEqual(depth(tree(table)), 30)
        self.assertEqual([leaf[3][0] for leaf in leaves(tree(table))][:4], ["top15", "left15", "top14", "left14"])

    def test_the_list_of_a_leaf_is_its_own(self):
        given = ("across", [copy.deepcopy(PINWHEEL_TREE), ("cell", 3, 1, ())])
        leaves(given)[0][3].clear()
        self.assertEqual(given[1][0], PINWHEEL_TREE)
        alone = copy.deepcopy(PINWHEEL_TREE)
        leaves(alone)[0][3].clear()
        grown(alone)[2].clear()
        self.assertEqual(alone, PINWHEEL_TREE)

    def test_the_lists_of_a_tree_are_its_own(self):
        table = beside(PINWHEEL, PINWHEEL)
        before = copy.deepcopy(table)
        tree(table)[1][0][3].clear()
        tree(table)[1].clear()
        self.assertEqual(table, before)
        self.assertEqual(tree(table), ("across", [PINWHEEL_TREE, PINWHEEL_TREE]))
        knot = copy.deepcopy(PINWHEEL)
        tree(knot)[3].clear()
        self.assertEqual(knot, PINWHEEL)
        self.assertEqual(tree(knot), PINWHEEL_TREE)


class Below(unittest.TestCase):
    def tells(self, expected, *given):
        told = told_afresh(self, below, *given)
        self.assertEqual(told, expected)
        self.assertEqual(checked(told), expected)

    def test_cells_in_order(self):
        one = (1, 2, [(0, 0, 1, 1, ("a",)), (0, 1, 1, 1, ())])
        other = (2, 2, [(0, 0, 1, 1, ()), (0, 1, 2, 1, ("b",)), (1, 0, 1, 1, ("c",))])
        self.tells((3, 2, [
            (0, 0, 1, 1, ("a",)), (0, 1, 1, 1, ()), (1, 0, 1, 1, ()), (1, 1, 2, 1, ("b",)), (2, 0, 1, 1, ("c",)),
        ]), one, other)
        self.tells((3, 2, [
            (0, 0, 1, 1, ()), (0, 1, 2, 1, ("b",)), (1, 0, 1, 1, ("c",)), (2, 0, 1, 1, ("a",)), (2, 1, 1, 1, ()),
        ]), other, one)

    def test_many_tables(self):
        small = small_tables()[::5]
        large = large_tables()
        pairs = [(one, other) for tables in (small, large) for one in tables for other in tables]
        for one, other in pairs:
            if one[1] == other[1]:
                self.is_below(one, other)

    def is_below(self, one, other):
        if one[0] + other[0] > 16:
            refused(self, TooBig, below, one, other)
            return
        upper, words = renamed(*grid_of(one), "one")
        lower, more = renamed(*grid_of(other), "other")
        self.tells(table_of(upper + lower, {**words, **more}), one, other)
        told = below(one, other)
        self.assertEqual(cut_out(told, 0, 0, one[0], one[1]), one)
        self.assertEqual(cut_out(told, one[0], 0, other[0], other[1]), other)
        self.assertIn(one[0], [first for first, _ in bands(told)])

    def test_sixteen_rows_and_seventeen(self):
        for first in (1, 7, 8, 15):
            self.tells(empty(16, 3), empty(first, 3), empty(16 - first, 3))
            refused(self, TooBig, below, empty(first, 3), empty(17 - first, 3))
        refused(self, TooBig, below, empty(16, 1), empty(1, 1))
        refused(self, TooBig, below, empty(1, 1), empty(16, 1))
        refused(self, TooBig, below, one_cell(9, 1), one_cell(8, 1))

    def test_columns_are_not_counted(self):
        self.tells(empty(2, 16), empty(1, 16), empty(1, 16))


class Mirrored(unittest.TestCase):
    def tells(self, table, expected):
        told = told_afresh(self, mirrored, table)
        self.assertEqual(told, expected)
        self.assertEqual(checked(told), expected)
        self.assertEqual(told_afresh(self, mirrored, told), table)

    def test_one_column(self):
        for table in (empty(1, 1), empty(16, 1), one_cell(3, 1, "a", "b"), below(one_cell(2, 1, "a"), empty(2, 1))):
            self.tells(table, table)

    def test_the_first_becomes_the_last(self):
        self.tells((1, 3, [(0, 0, 1, 1, ("a",)), (0, 1, 1, 1, ("b", "c")), (0, 2, 1, 1, ())]), (1, 3, [
            (0, 0, 1, 1, ()), (0, 1, 1, 1, ("b", "c")), (0, 2, 1, 1, ("a",)),
        ]))
        self.tells(empty(16, 16), empty(16, 16))

    def test_cells_that_span(self):
        self.tells((3, 4, [
            (0, 0, 2, 3, ("big",)), (0, 3, 1, 1, ("a",)), (1, 3, 2, 1, ("tall",)), (2, 0, 1, 1, ("b",)), (2, 1, 1, 2, ()),
        ]), (3, 4, [
            (0, 0, 1, 1, ("a",)), (0, 1, 2, 3, ("big",)), (1, 0, 2, 1, ("tall",)), (2, 1, 1, 2, ()), (2, 3, 1, 1, ("b",)),
        ]))
        self.tells(one_cell(16, 16, "x"), one_cell(16, 16, "x"))

    def test_a_knot(self):
        self.tells(PINWHEEL, (3, 3, [
            (0, 0, 2, 1, ("b",)), (0, 1, 1, 2, ("a",)), (1, 1, 1, 1, ("d",)), (1, 2, 2, 1, ("c",)), (2, 0, 1, 2, ("e",)),
        ]))

    def test_every_table(self):
        for table in small_tables() + large_tables():
            self.tells(table, by_grid(table, lambda grid: [names[::-1] for names in grid]))


if __name__ == "__main__":
    unittest.main()

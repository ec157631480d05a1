"""Deeds on whole rows and columns of a table."""

from gridframe.errors import TooBig, TooSmall
from gridframe.tables import LONGEST_SIDE, cell_at, empty_cell, in_order


def row_in(table, at):
    if table[0] >= LONGEST_SIDE:
        raise TooBig("there is no room for one more")
    rows = table[0] + 1
    columns = table[1]
    moved = [with_row_in(cell, at) for cell in table[2]]
    spread = (rows, columns, moved)
    fresh = [empty_cell(at, column) for column in range(columns) if cell_at(spread, at, column) is None]
    return (rows, columns, in_order(moved + fresh))


def row_out(table, at):
    if table[0] <= 1:
        raise TooSmall("the only one can't be taken out")
    left_over = [with_row_out(cell, at) for cell in table[2] if not is_of_row_alone(cell, at)]
    # A taller cell that begins in the row now begins beside cells of the next row, which may lie left of it.
    return (table[0] - 1, table[1], in_order(left_over))


def turned(table):
    cells = [(left, top, width, height, words) for top, left, height, width, words in table[2]]
    return (table[1], table[0], in_order(cells))


def column_in(table, at):
    return turned(row_in(turned(table), at))


def column_out(table, at):
    return turned(row_out(turned(table), at))


def with_row_in(cell, at):
    if cell[0] >= at:
        return shifted(cell, 1, 0)
    if cell[0] + cell[2] > at:
        return shifted(cell, 0, 1)
    return cell


def with_row_out(cell, at):
    if cell[0] > at:
        return shifted(cell, -1, 0)
    if cell[0] + cell[2] > at:
        return shifted(cell, 0, -1)
    return cell


def is_of_row_alone(cell, at):
    return cell[0] == at and cell[2] == 1


def shifted(cell, down, taller):
    return (cell[0] + down, cell[1], cell[2] + taller, cell[3], cell[4])

"""Blocks joined and cut out, cells parted, tables set side by side.

A block is a tuple (top, left, height, width), the beginning of a cell.
"""

from gridframe.deeds import turned
from gridframe.errors import Crossing, TooBig
from gridframe.tables import LONGEST_SIDE, MOST_WORDS, cell_at, empty_cell, in_order, moved_cell, places


def joined(table, top, left, height, width):
    block = (top, left, height, width)
    words = ()
    for cell in cells_in(table, block):
        words = words + cell[4]
    if len(words) > MOST_WORDS:
        raise TooBig("one cell can't hold all these words")
    others = [cell for cell in table[2] if not meets(cell, block)]
    return (table[0], table[1], in_order(others + [block + (words,)]))


def parted(table, row, column):
    at = cell_at(table, row, column)
    others = table[2][:at] + table[2][at + 1:]
    return (table[0], table[1], in_order(others + parts_of(table[2][at])))


def cut_out(table, top, left, height, width):
    inner = cells_in(table, (top, left, height, width))
    return (height, width, [moved_cell(cell, -top, -left) for cell in inner])


def beside(one, other):
    if one[1] + other[1] > LONGEST_SIDE:
        raise TooBig("there are too many columns together")
    return abreast([one, other])


def abreast(parts):
    return turned(stacked([turned(part) for part in parts]))


def stacked(parts):
    # Those who call ask whether it is too big: only two tables put together are ever refused for that.
    rows = 0
    cells = []
    for part in parts:
        cells.extend([moved_cell(cell, rows, 0) for cell in part[2]])
        rows = rows + part[0]
    return (rows, parts[0][1], cells)


def cells_in(table, block):
    for at, cell in enumerate(table[2]):
        if meets(cell, block) and not lies_in(cell, block):
            raise Crossing(at)
    return [cell for cell in table[2] if lies_in(cell, block)]


def meets(cell, block):
    if cell[0] >= block[0] + block[2] or block[0] >= cell[0] + cell[2]:
        return False
    return cell[1] < block[1] + block[3] and block[1] < cell[1] + cell[3]


def lies_in(cell, block):
    if cell[0] < block[0] or cell[0] + cell[2] > block[0] + block[2]:
        return False
    return block[1] <= cell[1] and cell[1] + cell[3] <= block[1] + block[3]


def parts_of(cell):
    parts = [empty_cell(row, column) for row, column in places(cell)]
    parts[0] = (cell[0], cell[1], 1, 1, cell[4])
    return parts

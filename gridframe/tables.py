"""What a table is, and the words in its cells.

A table is a tuple (rows, columns, cells), a cell a tuple (top, left, height, width, words).
"""

from gridframe.errors import BadTable

LONGEST_SIDE = 16
LONGEST_WORD = 12
MOST_WORDS = 12
SIGNS = "abcdefghijklmnopqrstuvwxyz0123456789"


def checked(table):
    if not has_frame(table):
        raise BadTable(None)
    rows = table[0]
    columns = table[1]
    cells = list(table[2])
    covered = {}
    for at, cell in enumerate(cells):
        # The order matters: a cell's places are walked only once it is known to lie within the table.
        if not is_cell(cell) or sticks_out(cell, rows, columns):
            raise BadTable(at)
        if at > 0 and first_place(cell) <= first_place(cells[at - 1]):
            raise BadTable(at)
        for place in places(cell):
            if place in covered:
                raise BadTable(at)
            covered[place] = True
    if len(covered) < rows * columns:
        raise BadTable(None)
    return (rows, columns, cells)


def empty(rows, columns):
    cells = []
    for row in range(rows):
        cells.extend([empty_cell(row, column) for column in range(columns)])
    return (rows, columns, cells)


def cell_at(table, row, column):
    for at, cell in enumerate(table[2]):
        if covers(cell, row, column):
            return at
    return None


def with_words(table, row, column, words):
    at = cell_at(table, row, column)
    cells = list(table[2])
    cells[at] = cells[at][:4] + (words,)
    return (table[0], table[1], cells)


def has_frame(thing):
    if not isinstance(thing, tuple) or len(thing) != 3:
        return False
    return is_side(thing[0]) and is_side(thing[1]) and isinstance(thing[2], list)


def is_side(thing):
    return is_number(thing) and 1 <= thing <= LONGEST_SIDE


def is_number(thing):
    # Python counts True and False among the whole numbers, a table does not.
    return isinstance(thing, int) and not isinstance(thing, bool)


def is_cell(thing):
    if not isinstance(thing, tuple) or len(thing) != 5:
        return False
    if not all([is_number(part) for part in thing[:4]]):
        return False
    if thing[0] < 0 or thing[1] < 0 or thing[2] < 1 or thing[3] < 1:
        return False
    return are_words(thing[4])


def are_words(thing):
    if not isinstance(thing, tuple) or len(thing) > MOST_WORDS:
        return False
    return all([is_word(part) for part in thing])


def is_word(thing):
    if not isinstance(thing, str) or not 1 <= len(thing) <= LONGEST_WORD:
        return False
    return all([sign in SIGNS for sign in thing])


def sticks_out(cell, rows, columns):
    return cell[0] + cell[2] > rows or cell[1] + cell[3] > columns


def first_place(cell):
    return (cell[0], cell[1])


def places(cell):
    found = []
    for row in range(cell[0], cell[0] + cell[2]):
        found.extend([(row, column) for column in range(cell[1], cell[1] + cell[3])])
    return found


def covers(cell, row, column):
    return cell[0] <= row < cell[0] + cell[2] and cell[1] <= column < cell[1] + cell[3]


def empty_cell(row, column):
    return (row, column, 1, 1, ())


def moved_cell(cell, down, right):
    return (cell[0] + down, cell[1] + right) + cell[2:]


def in_order(cells):
    return sorted(cells, key=first_place)

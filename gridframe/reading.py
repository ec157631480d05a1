"""Drawings read back to tables."""

from gridframe.drawing import drawn
from gridframe.errors import BadDrawing, BadTable
from gridframe.plain import ended_rows
from gridframe.tables import checked, is_side


def read(text):
    signs = ended_rows(text)
    if not is_sheet(signs):
        raise BadDrawing("no text of rows that are all as long")
    down = crossings([row[0] for row in signs])
    across = crossings(signs[0])
    # Asked ahead of the cells, so that not all places of a far too great drawing are looked at.
    if not is_side(len(down) - 1) or not is_side(len(across) - 1):
        raise BadDrawing("too few or too many lines")
    try:
        told = checked((len(down) - 1, len(across) - 1, cells_seen(signs, down, across)))
    except BadTable:
        raise BadDrawing("what is drawn is no table") from None
    # Only some of the signs have been looked at; drawing tells what all of them must be.
    if drawn(told) != text:
        raise BadDrawing("the table is drawn otherwise")
    return told


def is_sheet(signs):
    if signs == [] or signs[0] == "":
        return False
    return all([len(row) == len(signs[0]) for row in signs])


def crossings(signs):
    return [at for at, sign in enumerate(signs) if sign == "+"]


def cells_seen(signs, down, across):
    above = [borders_above(signs[line], across) for line in down[:-1]]
    left_of = [borders_left(signs[line + 1], across) for line in down[:-1]]
    cells = []
    for top in range(len(above)):
        for left in range(len(above[top])):
            # Of all places of a cell only the first has a border both above and left of it.
            if above[top][left] and left_of[top][left]:
                height = run([row[left] for row in above], top)
                width = run(left_of[top], left)
                words = words_seen(signs, down[top:top + height + 1], across[left:left + width + 1])
                cells.append((top, left, height, width, words))
    return cells


def borders_above(row, across):
    return [row[line + 1] == "-" for line in across[:-1]]


def borders_left(row, across):
    return [row[line] == "|" for line in across[:-1]]


def run(borders, first):
    behind = first + 1
    while behind < len(borders) and not borders[behind]:
        behind = behind + 1
    return behind - first


def words_seen(signs, down, across):
    rows = [row[across[0] + 1:across[-1]] for row in signs[down[0] + 1:down[-1]]]
    return tuple(" ".join(rows).split())

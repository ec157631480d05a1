"""The words of cells written in rows of signs, and the sizes of columns and rows in which they have room."""

from gridframe.sizes import sizes


def filled(words, width):
    rows = []
    for word in words:
        if len(rows) > 0 and len(rows[-1]) + 1 + len(word) <= width:
            rows[-1] = rows[-1] + " " + word
        else:
            rows.append(word)
    return rows


def column_spans(table):
    return [(cell[1], cell[1] + cell[3], longest(cell[4])) for cell in table[2]]


def row_spans(table, widths):
    return [(cell[0], cell[0] + cell[2], len(filled(cell[4], width_of(cell, widths)))) for cell in table[2]]


def layout(table):
    widths = sizes(column_spans(table), table[1])
    heights = sizes(row_spans(table, widths), table[0])
    return (widths, heights)


def longest(words):
    return max([len(word) for word in words], default=0)


def width_of(cell, widths):
    lines = cell[3] - 1
    return sum(widths[cell[1]:cell[1] + cell[3]]) + lines
